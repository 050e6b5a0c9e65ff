import PyProof.Rows.All
import Wide.All
import OpenK.AllK
import Wide.FinOn
import KE.KStateDown
import Lean
import HandS.ForMost
import HandS.WordsExc
import HandS.Exc
import HandS.ExcInit
import HandS.IsInst
import HandS.Defaults
import HandS.Wide
import HandS.Style
import HandS.Strs
import HandS.More
import HandS.RaiseMore
import HandS.Flow
import HandS.HeadHook2
import HandS.HeadEnd
import HandS.EndBits
import HandS.StrMore
import PyProof.ReprRoads
import PyProof.Draws
import PyProof.EnumMake
import PyProof.ListStr
import PyProof.TupleOfStr
import HandS.Conv
import PyProof.Rows.StrRev
import HandS.HeadHook3
import PyProof.Rows.StrLast
import Wide.Txt
import KE.GoesMore
import HandS.DictComp
import HandS.Sort
import HandS.SortInts
import HandS.Small
import HandS.Deep
import KE.KDictSum
import KE.KDictList
import HandS.Zip
import PyProof.StrWalks
import HandS.TryMany
import HandS.ExcField
import HandS.ExcIs
import KE.KTryMore
import KE.KIsAll
import HandS.ExcOwn
import HandS.ClsMeth
import HandS.HeadNt
import PyProof.ReprLen
import HandS.CallLocal
import HandS.OwnEq
import KE.KCallOwn
import KE.KEqDeep
import PyProof.Rows.ReprShort
import KE.KDictZip
import KE.DataMinMax
import KE.KRevSl
import HandS.SortKw
import HandS.WideBits
import HandS.Head0
import HandS.Head1
import HandS.Head2
import HandS.TupAny
import KE.IntTextLaws
import PyProof.StrLawsRepr
import KE.GoesZip
import KE.KEqNest
import KE.DatumOrd
import PyProof.NeKinds
import HandS.WordsDict
import HandS.Finally
import KE.KEqDict
import PySem.Challenge.RW_cratetowers_k26_costs_refused
set_option Elab.async false
set_option linter.all false
set_option maxRecDepth 100000
set_option maxHeartbeats 0
namespace U
open PySem PySem.Spec PyProof.Rows L2

/-! ### operators on values, by the values' kinds -/
section
variable {X : Cx}
def uAdd : R2 := fun x y H Q => match x, y with
  | .int i, .int j => Q (.int (i + j)) H
  | .str i, .str j => i.length + j.length ≤ sizeLine ∧ Q (.str (i ++ j)) H
  | .ref a, .ref b => rCat (.ref a) (.ref b) H Q
  | _, _ => False
theorem op_uAdd : OpR X (binaryOp .Add) uAdd := by
  intro pins s σ H x y u v Q I rx ry h
  cases x <;> cases y <;> first
    | exact (show False from h).elim
    | exact op_add pins s σ H _ _ u v Q I rx ry ⟨_, _, rfl, rfl, h⟩
    | exact op_add_str pins s σ H _ _ u v Q I rx ry ⟨_, _, rfl, rfl, h⟩
    | exact op_cat pins s σ H _ _ u v Q I rx ry h
def uSub : R2 := fun x y H Q => match x, y with
  | .int i, .int j => Q (.int (i - j)) H
  | _, _ => False
theorem op_uSub : OpR X (binaryOp .Sub) uSub := by
  intro pins s σ H x y u v Q I rx ry h
  cases x <;> cases y <;> first
    | exact (show False from h).elim
    | exact op_sub pins s σ H _ _ u v Q I rx ry ⟨_, _, rfl, rfl, h⟩
/-- a text, so many times -/
def rMulS : R2 := fun x y H Q => ∃ z n, x = .str z ∧ y = .int n ∧ 0 ≤ n ∧ n ≤ 1000 ∧ z.length ≤ 10000 ∧ Q (.str (Txt.mul z n)) H
theorem op_mulS : OpR X (binaryOp .Mult) rMulS := by
  intro ps s σ H x y v u R I rx ry h
  obtain ⟨z, n, rfl, rfl, h0, h1, h2, q⟩ := h
  obtain ⟨t, rfl⟩ := rx
  obtain ⟨t', rfl⟩ := ry
  refine SB.mul ⟨?_, ?_, ?_⟩ fun t' k => ⟨.str _, H, I.tok _, ⟨_, rfl⟩, q⟩
  · have e1 : ¬ n < -(2 ^ 63 : Int) := by omega
    have e2 : ¬ n ≥ 2 ^ 63 := by omega
    rw [decide_eq_false e1, decide_eq_false e2] <;> rfl
  · intro k1 _ k2
    have e : (z.length : Int) * n ≤ 10000 * 1000 := Int.mul_le_mul (by omega) h1 h0 (by omega)
    have e3 : (z.length : Int) ≤ (2 ^ 63 - 1) / n := Int.le_ediv_of_mul_le (by omega) (by omega)
    omega
  · intro _ _
    have e : z.length * n.toNat ≤ 10000 * 1000 := Nat.mul_le_mul h2 (by omega)
    have hs := sizeLine_eq
    show decide (_ > sizeLine) = false
    exact decide_eq_false (Nat.not_lt.mpr (by omega))
def uMul : R2 := fun x y H Q => match x, y with
  | .int i, .int j => CMul i j ∧ Q (.int (i * j)) H
  | .str z, .int n => 0 ≤ n ∧ n ≤ 1000 ∧ z.length ≤ 10000 ∧ Q (.str (Txt.mul z n)) H
  | .ref a, .int n => rRep (.ref a) (.int n) H Q
  | _, _ => False
theorem op_uMul : OpR X (binaryOp .Mult) uMul := by
  intro pins s σ H x y u v Q I rx ry h
  cases x <;> cases y <;> first
    | exact (show False from h).elim
    | exact op_mul pins s σ H _ _ u v Q I rx ry ⟨_, _, rfl, rfl, h⟩
    | exact op_mulS pins s σ H _ _ u v Q I rx ry ⟨_, _, rfl, rfl, h⟩
    | exact op_rep pins s σ H _ _ u v Q I rx ry h
def uDiv : R2 := fun x y H Q => match x, y with
  | .int i, .int j => CDivW i j ∧ Q (.int (i / j)) H
  | _, _ => False
theorem op_uDiv : OpR X (binaryOp .FloorDiv) uDiv := by
  intro pins s σ H x y u v Q I rx ry h
  cases x <;> cases y <;> first
    | exact (show False from h).elim
    | exact op_fdivW pins s σ H _ _ u v Q I rx ry ⟨_, _, rfl, rfl, h⟩
def uMod : R2 := fun x y H Q => match x, y with
  | .int i, .int j => 0 < j ∧ Q (.int (i % j)) H
  | _, _ => False
theorem op_uMod : OpR X (binaryOp .Mod) uMod := by
  intro pins s σ H x y u v Q I rx ry h
  cases x <;> cases y <;> first
    | exact (show False from h).elim
    | exact op_mod pins s σ H _ _ u v Q I rx ry ⟨_, _, rfl, rfl, h⟩
def uPow : R2 := fun x y H Q => match x, y with
  | .int i, .int j => CPow i j ∧ Q (.int (i ^ j.toNat)) H
  | _, _ => False
theorem op_uPow : OpR X (binaryOp .Pow) uPow := by
  intro pins s σ H x y u v Q I rx ry h
  cases x <;> cases y <;> first
    | exact (show False from h).elim
    | exact op_pow pins s σ H _ _ u v Q I rx ry ⟨_, _, rfl, rfl, h⟩
/-! comparisons -/
def uEq (K : PySem.W.Frag) : R2 := fun x y H Q => match x, y with
  | .ref a, y => rEqD K (.ref a) y H Q
  | .int i, .int j => Q (.bl (decide (i = j))) H
  | .str i, .str j => Q (.bl (decide (i = j))) H
  | .non, y => rEq .non y H Q
  | .bl b, y => rEq (.bl b) y H Q
  | .int i, .non => Q (.bl false) H
  | .str i, .non => Q (.bl false) H
  | _, _ => False
theorem op_uEq (hu : X.A.units + 64 < cLine) : OpR X (compareOp .Eq) (uEq X.K) := by
  intro pins s σ H x y u v Q I rx ry h
  cases x <;> cases y <;> first
    | exact (show False from h).elim
    | exact op_eqD hu pins s σ H _ _ u v Q I rx ry h
    | exact op_eq pins s σ H _ _ u v Q I rx ry h
    | exact op_eq pins s σ H _ _ u v Q I rx ry ⟨rfl, by simpa [uEq] using h⟩
def uNe (K : PySem.W.Frag) : R2 := fun x y H Q => match x, y with
  | .ref a, y => rNeD K (.ref a) y H Q
  | .int i, .int j => Q (.bl (!decide (i = j))) H
  | .str i, .str j => Q (.bl (!decide (i = j))) H
  | .non, y => rNe .non y H Q
  | .bl b, y => rNe (.bl b) y H Q
  | .int i, .non => Q (.bl true) H
  | .str i, .non => Q (.bl true) H
  | _, _ => False
theorem op_uNe (hu : X.A.units + 64 < cLine) : OpR X (compareOp .NotEq) (uNe X.K) := by
  intro pins s σ H x y u v Q I rx ry h
  cases x <;> cases y <;> first
    | exact (show False from h).elim
    | exact op_neD hu pins s σ H _ _ u v Q I rx ry h
    | exact op_ne pins s σ H _ _ u v Q I rx ry h
    | exact op_ne pins s σ H _ _ u v Q I rx ry ⟨rfl, by simpa [uNe] using h⟩
def uCmp (p : Int → Int → Bool) : R2 := fun x y H Q => match x, y with
  | .int i, .int j => Q (.bl (p i j)) H
  | _, _ => False
theorem uCmp_of {f : Value → Value → Sem Value} {p : Int → Int → Bool} (h : OpR X f (rI0 fun i j => .bl (p i j))) : OpR X f (uCmp p) := by
  intro pins s σ H x y u v Q I rx ry q
  cases x <;> cases y <;> first
    | exact (show False from q).elim
    | exact h pins s σ H _ _ u v Q I rx ry ⟨_, _, rfl, rfl, q⟩
abbrev uLt : R2 := uCmp fun i j => decide (i < j)
abbrev uLe : R2 := uCmp fun i j => decide (i ≤ j)
abbrev uGt : R2 := uCmp fun i j => decide (j < i)
abbrev uGe : R2 := uCmp fun i j => decide (j ≤ i)
theorem op_uLt : OpR X (compareOp .Lt) uLt := uCmp_of op_lt
theorem op_uLe : OpR X (compareOp .LtE) uLe := uCmp_of op_le
theorem op_uGt : OpR X (compareOp .Gt) uGt := uCmp_of op_gt
theorem op_uGe : OpR X (compareOp .GtE) uGe := uCmp_of op_ge
def uIs : R2 := fun x y H Q => match y with
  | .non => Q (.bl (decide (x = .non))) H
  | .bl b => (match x with
    | .bl a => Q (.bl (decide (a = b))) H
    | _ => False)
  | _ => False
theorem op_uIs : OpR X (compareOp .Is) uIs := by
  intro pins s σ H x y u v Q I rx ry h
  cases y <;> try exact (show False from h).elim
  · exact op_isN pins s σ H _ _ u v Q I rx ry ⟨rfl, h⟩
  · cases x <;> try exact (show False from h).elim
    exact op_isBl pins s σ H _ _ u v Q I rx ry ⟨_, _, rfl, rfl, h⟩
def uNis : R2 := fun x y H Q => match y with
  | .non => Q (.bl (!decide (x = .non))) H
  | .bl b => (match x with
    | .bl a => Q (.bl (!decide (a = b))) H
    | _ => False)
  | _ => False
theorem op_uNis : OpR X (compareOp .IsNot) uNis := by
  intro pins s σ H x y u v Q I rx ry h
  cases y <;> try exact (show False from h).elim
  · exact op_notN pins s σ H _ _ u v Q I rx ry ⟨rfl, h⟩
  · cases x <;> try exact (show False from h).elim
    exact op_notBl pins s σ H _ _ u v Q I rx ry ⟨_, _, rfl, rfl, h⟩
def uIn (K : PySem.W.Frag) (neg : Bool) : R2 := fun x y H Q => match y with
  | .ref p => rIn K neg x (.ref p) H Q
  | .str z => (match x with
    | .str i => Q (.bl (if neg then !(!(Builtin.Str.occurrences z i 0 z.length 1).isEmpty) else !(Builtin.Str.occurrences z i 0 z.length 1).isEmpty)) H
    | _ => False)
  | _ => False
theorem op_uIn : OpR X (compareOp .In) (uIn X.K false) := by
  intro pins s σ H x y u v Q I rx ry h
  cases y <;> try exact (show False from h).elim
  · cases x <;> try exact (show False from h).elim
    exact op_in_str pins s σ H _ _ u v Q I rx ry ⟨_, _, rfl, rfl, h⟩
  · exact op_in_seq pins s σ H _ _ u v Q I rx ry h
/-! subscripts -/
def uIx (K : PySem.W.Frag) : R2 := fun x y H Q => match x, y with
  | .str z, .int i => z.length ≤ sizeLine ∧ ∃ c, atI z.cps.toList i = some c ∧ Q (.str ⟨#[c]⟩) H
  | .ref p, .int i => ∃ xs v, (SqL K H p xs ∨ SqT K H p xs) ∧ atI xs i = some v ∧ Q v H
  | _, _ => False
theorem ix_u : IxR X (uIx X.K) := by
  intro ea eb pins s σ H x y u v Q I rx ry h
  cases x <;> cases y <;> try exact (show False from h).elim
  · obtain ⟨h1, c, h2, q⟩ := h
    exact ix_str ea eb pins s σ H _ _ u v Q I rx ry ⟨_, _, c, rfl, rfl, h1, h2, q⟩
  · obtain ⟨xs, z, hs | hs, h2, q⟩ := h
    · exact ix_list ea eb pins s σ H _ _ u v Q I rx ry ⟨_, xs, _, z, rfl, rfl, hs, h2, q⟩
    · exact ix_tup ea eb pins s σ H _ _ u v Q I rx ry ⟨_, xs, _, z, rfl, rfl, hs, h2, q⟩
def uSl (K : PySem.W.Frag) : V → Option Int → Option Int → Hp → VK → Prop := fun x lo hi H Q => match x with
  | .str z => z.length ≤ sizeLine ∧ Q (.str (cutS z lo hi)) H
  | .ref a => rSlL K (.ref a) lo hi H Q ∨ rSlT K (.ref a) lo hi H Q
  | _ => False
theorem sl_u : SlR X (uSl X.K) := by
  intro pins s σ H x v sl lo hi ulo uhi Q I rx hsl hlo hhi h
  cases x <;> try exact (show False from h).elim
  · exact sl_str pins s σ H _ v sl lo hi ulo uhi Q I rx hsl hlo hhi ⟨_, rfl, h⟩
  · rcases h with h | h
    · exact sl_list pins s σ H _ v sl lo hi ulo uhi Q I rx hsl hlo hhi h
    · exact sl_tup pins s σ H _ v sl lo hi ulo uhi Q I rx hsl hlo hhi h
/-! calls -/
def uLen (K : PySem.W.Frag) : List V → Hp → VK → Prop := fun xs H Q => match xs with
  | [.str z] => z.length ≤ sizeLine ∧ Q (.int z.length) H
  | [.ref p] => ∃ ys, (SqL K H p ys ∨ SqT K H p ys) ∧ Q (.int ys.length) H
  | _ => False
theorem call_uLen : CallR X (.builtin "len") (uLen X.K) := by
  intro ps s σ H xs us R I r h
  match xs, h with
  | [.str z], h => exact call_len_str ps s σ H _ us R I r ⟨_, rfl, h⟩
  | [.ref p], h =>
    obtain ⟨ys, hs, q⟩ := h
    exact call_len_seq ps s σ H _ us R I r ⟨p, ys, rfl, hs, q⟩
def uIsi (K : PySem.W.Frag) : List V → Hp → VK → Prop := fun xs H Q => match xs with
  | [x, .ty T] => ∃ t b, TyX K H x t ∧ PySem.W.kitOne K t (.type T) = some b ∧ Q (.bl b) H
  | [x, .ref c] => (∃ t b, TyX K H x t ∧ PySem.W.kitOne K t (.ref c) = some b ∧ Q (.bl b) H) ∨ ∃ cs us t b, H c = some (.tup cs) ∧ Paired ClsV cs us ∧ TyX K H x t ∧ PySem.W.kitAny K t us = some b ∧ Q (.bl b) H
  | _ => False
theorem call_uIsi : CallR X (.builtin "isinstance") (uIsi X.K) := by
  intro ps s σ H xs us R I r h
  match xs, h with
  | [x, .ty T], h =>
    obtain ⟨t, b, h1, h2, q⟩ := h
    exact call_isi ps s σ H _ us R I r ⟨x, _, t, _, b, rfl, .ty T, h1, h2, q⟩
  | [x, .ref c], h =>
    rcases h with ⟨t, b, h1, h2, q⟩ | ⟨cs, ws, t, b, h0, h3, h1, h2, q⟩
    · exact call_isi ps s σ H _ us R I r ⟨x, _, t, _, b, rfl, .own c, h1, h2, q⟩
    · exact call_isiT ps s σ H _ us R I r ⟨x, c, cs, t, ws, b, rfl, h0, h3, h1, h2, q⟩
/-- len of an instance whose class has its own __len__ -/
def rLenO (C : Addr) (sp : Sp) : List V → Hp → VK → Prop := fun xs H Q => ∃ a dx fs, xs = [.ref a] ∧ H a = some (.ins C dx fs) ∧ sp [.ref a] H (fun v H' => ∃ n : Int, v = .int n ∧ 0 ≤ n ∧ n < 2 ^ 63 ∧ Q (.int n) H') E0
theorem call_lenO {k : Nat} {C f : Addr} {fd : FuncData} {ps : List Str} {sp : Sp} (F : FnOk X.prog X.w X.K X.mg X.base (L2.CX X.prog X.w) k f fd ps sp) (m : Meth X.K C "__len__" f) (hr : Room (k + 1) X.A) (hb : Binds X.K fd ps []) :
    CallR X (.builtin "len") (rLenO C sp) := by
  intro ps' s σ H xs us R I r h
  obtain ⟨a, dx, fs, rfl, ea, h⟩ := h
  obtain rfl := Vals.ref1 r
  obtain ⟨_, O, _⟩ := ins_get I.hok ea
  obtain ⟨od, J, _⟩ := O.look
  obtain ⟨m', hF⟩ := I.fr
  refine PySem.W.len_K hF I.ok.mod.kin J m.at_ m.fn ?_
  have e0 : Env0 X.prog X.w X.K X.mg X.base X.A.in1 X.stack s H := I.env0.in1
  have hl := F.len _ _ _ _ h
  have r2 : Vals [.ref a] [.ref a] := (.cons (by rfl) .nil)
  refine wpAny_call (codeAny_mono (F.run X.A.in1 X.stack s H ⟨[.ref a], []⟩ [.ref a] [.ref a] _ E0 hr.in1 e0 (by
    have := hb s [.ref a] I.kIn (by simpa using hl)
    simpa using this) r2 h) fun r s' hq => ?_)
  cases r with
  | error e => exact passL ps' σ H s e s' I hq
  | ok fl =>
    cases fl with
    | ret w =>
      obtain ⟨z, H', I', rz, n, ez, h0, h1, q⟩ := I.after hq
      subst ez
      obtain ⟨t, rfl⟩ := rz
      exact ⟨⟨h0, h1⟩, ⟨.int n, H', I'.tok _, ⟨_, rfl⟩, q⟩⟩
    | next => exact False.elim hq
    | brk => exact False.elim hq
    | cont => exact False.elim hq
end
end U
namespace U
open PySem PySem.Spec PyProof.Rows L2

/-! ### promises kept where no text of a container is being made -/
structure FnG (P : Program) (w : World) (K : PySem.W.Frag) (mg : Str → Option Value) (base : Heap) (k : Nat) (f : Addr) (fd : FuncData) (ps : List Str) (sp : Sp) : Prop where
  len : ∀ (vs : List V) (H : Hp) (Q : VK) (E : XK), sp vs H Q E → vs.length = ps.length
  go : ∀ A : Around, A.guards = some [] → ∀ (outer : List Env) (s : Shared) (H : Hp) (ar : Args) (us : List Value) (vs : List V) (Q : VK) (E : XK),
    Room k A → Env0 P w K mg base A outer s H → BindsTo s fd ar (ps.zip us) → Vals vs us → sp vs H Q E → codeAny (model P w) A (.call (.ref f) ar) (CR (L2.CX P w) outer P w H s Q E) s
section
variable {P : Program} {w : World} {K : PySem.W.Frag} {mg : Str → Option Value} {base : Heap}
theorem FnG.of {k : Nat} {f : Addr} {fd : FuncData} {ps : List Str} {sp : Sp} (F : FnOk P w K mg base (L2.CX P w) k f fd ps sp) : FnG P w K mg base k f fd ps sp :=
  ⟨F.len, fun A _ outer s H ar us vs Q E r e b v q => F.run A outer s H ar us vs Q E r e b v q⟩
/-- a def by its body -/
theorem fnG_of {x qual : Str} {pa : Arguments} {bd : List Stmt} {sc : Scope} {f : Addr} {fd : FuncData} {N ps : List Str} {k : Nat} {sp : Sp} (F : FunD K x qual pa bd sc [] [] f fd) (S : FnScope N ps sc) (hlen : ∀ vs H Q E, sp vs H Q E → vs.length = ps.length)
    (hb : ∀ (cdv : Value) (A : Around) (outer : List Env) (s : Shared) (H : Hp) (vs : List V) (Q : VK) (E : XK), A.guards = some [] → Room k (A.deeper (envOfC qual sc s.heap.objs.size f cdv)) → sp vs H Q E →
      ∃ t, PSs (cxOf (L2.CX P w) P w K mg base N qual sc f cdv A outer s H E) bd t ∧ t { nx := fun _ H' => Q .non H', rt := Q } (start N vs) H) : FnG P w K mg base (k + 1) f fd ps sp := by
  obtain ⟨oc, od, dV, kV, doc, pm, an, cdv, ct, osl, hfd, hlk, hcode, _, _⟩ := F.ex
  subst hfd
  refine ⟨hlen, fun A hA outer s H ar us vs Q E room env bnd vls prom => ?_⟩
  have len1 := hlen _ _ _ _ prom
  have kin : K.In s.heap := e_kin env
  have nol : s.heap.NoLimit := env.mod.nolimit.keeps fun b o z => (env.bs b o z).1
  refine codeAny_call_function room.depth (kin _ _ hlk) rfl S.co S.gen rfl (PySem.W.codeRec_of kin hcode) (bnd _ _ _ _ ?_)
  refine wpAny_newFunctionEnv_cells S.kind (kinds_of S) fun en hen s1 ic => ?_
  cases hen
  refine ⟨nol.keeps ic.toInCall.keep, codeAny_func ?_⟩
  obtain ⟨t, der, rd⟩ := hb cdv A outer s H vs Q E hA (room.deeper _) prom
  have inv0 := inv_start (CX := L2.CX P w) (E := E) S room.hd env len1 vls ic
  refine wpAny_mono (der.run [] s1 (start N vs) H _ inv0 rd) (fun fl s' out => ?_) fun _ _ z => z
  match fl, out with
  | .ret u, ⟨v, σ', H', J, rv, q⟩ => exact ⟨v, H', J.os, J.bare, J.base, J.hok, rv, q⟩
  | .next, ⟨σ', H', J, q⟩ => exact ⟨.non, H', J.os, J.bare, J.base, J.hok, rfl, q⟩
  | .brk, ⟨_, _, _, q⟩ => exact q.elim
  | .cont, ⟨_, _, _, q⟩ => exact q.elim
where
  e_kin {A : Around} {outer : List Env} {s : Shared} {H : Hp} (env : Env0 P w K mg base A outer s H) : K.In s.heap := env.mod.kin.keeps fun b o z => (env.bs b o z).1
  kinds_of {N ps : List Str} {sc : Scope} (S : FnScope N ps sc) {n : Nat} {us : List Value} : ∀ y ∈ ps.zip us, sc.names.lookup y.1 = some .local ∨ (sc.names.lookup y.1 = some .cell ∧ ((cellsFrom n sc.names []).lookup y.1).isSome = true) :=
    fun y hy => (S.par y.1 (List.of_mem_zip (a := y.1) (b := y.2) hy).1).imp id fun q => ⟨q, PySem.W.cellsFrom_some _ _ _ (.inl q)⟩
end

/-! ### a def of the module under its name -/
structure Good (P : Program) (w : World) (K : PySem.W.Frag) (mg : Str → Option Value) (base : Heap) (k : Nat) (x : Str) (ps : List Str) (sp : Sp) : Prop where
  fn : ∃ fd, FnG P w K mg base k (He.ga K x) fd ps sp ∧ Binds K fd ps []
  mg : mg x = some (.ref (He.ga K x))
  kp : PySem.W.keepIn K (.ref (He.ga K x)) = true
/-- a method that asks no text of a container -/
structure GoodM (P : Program) (w : World) (K : PySem.W.Frag) (mg : Str → Option Value) (base : Heap) (k : Nat) (C m : Str) (ps : List Str) (sp : Sp) : Prop where
  fn : ∃ fd, FnOk P w K mg base (L2.CX P w) k (He.ma K (He.ga K C) m) fd ps sp ∧ Binds K fd ps []
  mt : Meth K (He.ga K C) m (He.ma K (He.ga K C) m)
  cl : Cls K (He.ga K C)
/-- f(..) -/
def tFn (sp : Sp) (E : XK) (t : TA) : TE := fun σ H Q => t σ H fun vs H1 => sp vs H1 Q E
section
variable {X : Cx} {k : Nat} {x m : Str} {ps : List Str} {sp : Sp} {E : XK} {p pos apos : Pos} {e o : Expr} {es : List Expr} {ta : TE} {t : TA}
theorem run_G {f : Addr} {fd : FuncData} {pins : List (Addr × Obj)} {σ : L2.St} {H : Hp} {s : Shared} {Q : VK} {us : List Value} {vs : List V} (F : FnG X.prog X.w X.K X.mg X.base k f fd ps sp) (hA : X.A.guards = some []) (hr : Room k X.A) (hb : Binds X.K fd ps [])
    (hx : Passes (L2.CX X.prog X.w) X E) (I : Inv X pins σ H s) (r : Vals vs us) (h : sp vs H Q E) : wpAny (model X.prog X.w) X.A (call (.ref f) us) (EP X pins σ Q) X.xe s := by
  have hl : (us ++ []).length = ps.length := by rw [List.append_nil, ← r.length]; exact F.len _ _ _ _ h
  have bb := hb s us I.kIn hl
  rw [List.append_nil] at bb
  refine wpAny_call (codeAny_mono (F.go X.A hA X.stack s H ⟨us, []⟩ us vs Q E hr I.env0 bb r h) fun res s' out => ?_)
  match res, out with
  | .error er, out => exact hx pins σ H s er s' I out
  | .ok (.ret u), out => exact I.after out
  | .ok .next, out => exact False.elim out
  | .ok .brk, out => exact False.elim out
  | .ok .cont, out => exact False.elim out
theorem pe_fn (g : Good X.prog X.w X.K X.mg X.base k x ps sp) (hA : X.A.guards = some []) (hr : Room k X.A) (hg : Gl X x) (hx : Passes (L2.CX X.prog X.w) X E)
    (hpl : (backTo pos (starEach es X.env)).any (·.1) = false := by rfl) (he : starEach (e :: es) X.env = (false, eval e X.env) :: starEach es X.env := by rfl) (ha : PA X (e :: es) t)
    (hdb : (x == ("__debug__" : Str)) = false := by decide) :
    PE X (.Call (.Name x p) (e :: es) [] pos) (tFn sp E t) := by
  obtain ⟨fd, F, hb⟩ := g.fn
  refine ⟨fun pins s σ H Q I h => ?_⟩
  refine wpAny_Call_Name_kw (ld_glob I hg g.mg ?_ hdb)
  exact PySem.W.callWith_K (h₀ := X.base) I.ok.mod.kin g.kp (thn (ha.run pos pins s σ H _ I h) fun us s1 z => by
    obtain ⟨vs, H1, I1, r, q⟩ := z
    exact ⟨I1.kIn, run_G F hA hr hb hx I1 r q⟩) he hpl
end

/-! ### a law's end -/
section
variable {P : Program} {w : World} {K : PySem.W.Frag} {mg mb : Str → Option Value} {k : Nat} {fa a : Addr} {fd : FuncData} {x : Str} {sp : Sp} {s1 : Shared} {vs : List Value} {ns : List Int}
/-- the script alone is tracked, locked, or nothing is -/
def One (a : Addr) (o : Obj) (xs : List V) (H : Hp) : Prop := ∀ b, H b = none ∨ (b = a ∧ H b = some (.frz o (.lst xs)))
theorem end_from (H : Hp) (o : Obj) (ho : s1.heap.get? a = some o) (hod : ∃ its n, o.data = .seq its n) (one : One a o (ns.map V.int) H) (hK : H a ≠ none → K.lookup a = none) (hok : HOk P w H s1.heap)
    (KX : K.In s1.heap) (hns : s1.heap.Ns mainGlobals mg) (hb : s1.heap.Ns builtinsNs mb) (hbb : ∀ x : Str, x ≠ "__name__" → mb x = bootBuiltins x) (hlim : s1.heap.NoLimit) (hg : s1.gens = #[]) (hr : Room k callerA)
    (F : ∀ base : Heap, K.In base → base.Ns mainGlobals mg → FnG P w K mg base k fa fd [x] sp) (hbind : ∀ (s : Shared) (u : Value), BindsTo s fd ⟨[u], []⟩ [(x, u)])
    (hsp : sp [.ref a] H (fun v _ => v = .bl true) fun _ _ _ => False) :
    codeAny (model P w) callerA (.call (.ref fa) ⟨[.ref a], []⟩) (fun r s' => r = .ok (.ret (.bool true)) ∧ OldK s1.heap s'.heap ∧ s'.os = s1.os ∧ AllBare s'.gens) s1 := by
  have only_a : ∀ b, b ≠ a → H b = none := fun b hb => (one b).elim id fun z => absurd z.1 hb
  have dict_free : ∀ b ob es ep, s1.heap.get? b = some ob → ob.data = .dict es ep → H b = none := fun b ob es ep e d => by
    by_cases q : b = a
    · obtain ⟨its, n, hd⟩ := hod
      rw [q, ho] at e
      rw [← Option.some.inj e, hd] at d
      cases d
    · exact only_a b q
  have ns_low : ∀ b (m : Str → Option Value), s1.heap.Ns b m → (hidT s1.heap H).Ns b m := fun b m z => by
    obtain ⟨ob, es, ep, e, d, r⟩ := z
    exact ⟨ob, es, ep, hidT_get e (dict_free b ob es ep e d), d, r⟩
  have k_low : K.In (hidT s1.heap H) := fun b ob e => by
    refine hidT_get (KX b ob e) ?_
    by_cases q : b = a
    · cases z : H b with
      | none => rfl
      | some u =>
        have y := hK (by rw [← q, z]; simp)
        rw [q, y] at e
        cases e
    · exact only_a b q
  obtain ⟨mc, l1, l2⟩ := hlim
  have md : Mod K mg (hidT s1.heap H) := ⟨k_low, ns_low _ _ hns, ⟨mb, ns_low _ _ hb, hbb⟩, ⟨mc, ns_low _ _ l1, l2⟩⟩
  have env : Env0 P w K mg (hidT s1.heap H) callerA [] s1 H :=
    { frames := rfl, mod := md, bs := fun b ob e => of_hidT e, bsz := Nat.le_of_eq (hidT_size _ _), funs := trivial, frf := fun b z => absurd z (by simp [frs]), hok := hok, bare := .of_eq hg }
  refine codeAny_mono ((F _ k_low (ns_low _ _ hns)).go callerA rfl [] s1 H ⟨[.ref a], []⟩ [.ref a] [.ref a] _ _ hr env (hbind s1 (.ref a)) (.cons rfl .nil) hsp) fun res s' out => ?_
  match res, out with
  | .error er, out =>
    obtain ⟨_, _, _, _, _, _, _, _, _, _, _, _, z⟩ := out
    exact z.elim
  | .ok .next, out => exact False.elim out
  | .ok .brk, out => exact False.elim out
  | .ok .cont, out => exact False.elim out
  | .ok (.ret u), out =>
    obtain ⟨v, H', eos, bare, un, hok', rv, ev⟩ := out
    have ev' : v = .bl true := ev
    subst ev'
    have eu : u = Value.bool true := rv
    refine ⟨by rw [eu], OldK.of_keep fun b ob e => ?_, eos, bare⟩
    rcases one b with q | ⟨q, z⟩
    · exact un.keep b ob e q (by simp [frs]) (by simp)
    · have z2 := un.frzs b _ _ z
      have y1 := (hok' b _ z2).1
      have y2 := (hok b _ z).1
      rw [← y2.symm.trans e |> Option.some.inj]
      exact y1
theorem end_G (KX : K.In s1.heap) (hns : s1.heap.Ns mainGlobals mg) (hb : s1.heap.Ns builtinsNs mb) (hbb : ∀ x : Str, x ≠ "__name__" → mb x = bootBuiltins x) (hlim : s1.heap.NoLimit) (hg : s1.gens = #[])
    (ha : s1.heap.get? a = some { cls := .type "list", data := .seq vs.toArray }) (hi : IntsAre vs ns) (hl : ns.length ≤ sizeLine) (hr : Room k callerA)
    (F : ∀ base : Heap, K.In base → base.Ns mainGlobals mg → FnG P w K mg base k fa fd [x] sp) (hbind : ∀ (s : Shared) (u : Value), BindsTo s fd ⟨[u], []⟩ [(x, u)])
    (hsp : ∀ H : Hp, (∀ b, H b = none ∨ ∃ o xs, H b = some (.frz o (.lst xs))) → SqL K H a (ns.map V.int) → sp [.ref a] H (fun v _ => v = .bl true) fun _ _ _ => False) :
    codeAny (model P w) callerA (.call (.ref fa) ⟨[.ref a], []⟩) (fun r s' => r = .ok (.ret (.bool true)) ∧ OldK s1.heap s'.heap ∧ s'.os = s1.os ∧ AllBare s'.gens) s1 := by
  have vv := vals_ints hi
  have ll := hi.length
  cases q : K.lookup a with
  | none =>
    have at_a : (fun b => if b = a then some (HO.frz { cls := .type "list", data := .seq vs.toArray } (.lst (ns.map V.int))) else none : Hp) a = some (.frz { cls := .type "list", data := .seq vs.toArray } (.lst (ns.map V.int))) := if_pos rfl
    have one : One a { cls := .type "list", data := .seq vs.toArray } (ns.map V.int) (fun b => if b = a then some (HO.frz { cls := .type "list", data := .seq vs.toArray } (.lst (ns.map V.int))) else none) := fun b => by
      by_cases e : b = a
      · exact .inr ⟨e, if_pos e⟩
      · exact .inl (if_neg e)
    refine end_from _ _ ha ⟨_, _, rfl⟩ one (fun _ => q) (fun b u z => ?_) KX hns hb hbb hlim hg hr F hbind (hsp _ (fun b => (one b).imp id fun z => ⟨_, _, z.2⟩) (.inl (.inr ⟨_, at_a⟩)))
    rcases one b with y | ⟨e, y⟩
    · cases y.symm.trans z
    · cases y.symm.trans z
      subst e
      exact ⟨ha, by rw [List.length_map]; exact hl, vs, _, vv, ha⟩
  | some ob =>
    have e := (KX a ob q).symm.trans ha
    have e2 := Option.some.inj e
    subst e2
    refine end_from (ns := ns) (fun _ => none) _ ha ⟨_, _, rfl⟩ (fun _ => .inl rfl) (fun z => absurd rfl z) (fun b u z => by cases z) KX hns hb hbb hlim hg hr F hbind
      (hsp _ (fun _ => .inl rfl) (.inr ⟨_, vs.toArray, _, q, rfl, rfl, rfl, by rw [List.size_toArray, ll]; exact hl, by simpa using vv⟩))
end
/-- a law from its head's facts, its def's promise kept where no text is under way -/
structure Owed (P : Program) (w : World) (h : Heap) (mg : Str → Option Value) (fa : Addr) (n k : Nat) (x : Str) : Prop where
  own : ∃ (K : PySem.W.Frag) (sp : Sp) (fd : FuncData), (∀ (s : Shared) (v : Value), BindsTo s fd ⟨[v], []⟩ [(x, v)]) ∧ K.In h ∧ (∀ base : Heap, K.In base → base.Ns mainGlobals mg → FnG P w K mg base k fa fd [x] sp) ∧
    ∀ (H : Hp) (a : Addr) (ns : List Int), ns.length ≤ n → (∀ z ∈ ns, Builtin.Int.intBits z ≤ 1048576) → SqL K H a (ns.map V.int) → sp [.ref a] H (fun v _ => v = .bl true) fun _ _ _ => False
theorem walk_G {l : PySem.W.OpenLaw} {n k : Nat} {q : Program} {loose : List Str} {XP : (Str → Option Value) → Heap → Prop} {YP : World → Heap → Prop} {d : DefRec} {x : Str} (room : Room k callerA) (most : l.most = some n) (fits : n ≤ sizeLine) (nodef : d.params.defaults = [])
    (owed : ∀ (w : World) (mg : Str → Option Value) (fa : Addr) (h : Heap), mg d.name = some (.ref fa) → YP w h → h.Ns mainGlobals mg → Owed l.prog w h mg fa n k x) : PySem.W.WalkO q loose XP YP l.row.toRowW d [] fun f vs => PySem.call f vs := by
  refine Att.attach_callB most nodef fun w s0 s1 mg mb fa o pm cd doc a vs ns G Y ho hd hcd named hobj hints hlen hbits hg => ?_
  obtain ⟨K, sp, fd, binds, kin, keeps, asks⟩ := (owed w mg fa _ named Y G.T.g).own
  exact end_G kin G.T.g G.T.b G.T.builtins G.T.nolimit hg hobj hints (Nat.le_trans hlen fits) room keeps binds fun H _ hS => asks H a ns hlen hbits hS
end U
namespace U
open PySem PySem.Spec PyProof.Rows L2

section
variable {X : Cx} {p pos apos : Pos} {e o : Expr} {es : List Expr} {t ta : TA} {te : TE}
/-! ### module constants -/
theorem pe_int_of {x : Str} {i : Int} (hg : Gl X x) (h : ∃ t, X.mg x = some (.int i t)) (hd : (x == ("__debug__" : Str)) = false := by decide) : PE X (.Name x pos) (tC (.int i)) := by
  obtain ⟨t, h⟩ := h
  exact pe_glob hg h ⟨t, rfl⟩ hd
theorem pe_str_of {x z : Str} (hg : Gl X x) (h : ∃ t, X.mg x = some (.str z t)) (hd : (x == ("__debug__" : Str)) = false := by decide) : PE X (.Name x pos) (tC (.str z)) := by
  obtain ⟨t, h⟩ := h
  exact pe_glob hg h ⟨t, rfl⟩ hd
/-! ### objects of one's own class -/
theorem pe_mk {k : Nat} {x : Str} {ps : List Str} {sp : Sp} {E : XK} (g : GoodM X.prog X.w X.K X.mg X.base k x "__init__" ps sp) (M : Mk X.K (He.ga X.K x) (He.ma X.K (He.ga X.K x) "__init__")) (hm : X.mg x = some (.ref (He.ga X.K x))) (hr : Room (k + 1) X.A) (hg : Gl X x) (hx : Passes (L2.CX X.prog X.w) X E)
    (hpl : (backTo pos (starEach es X.env)).any (·.1) = false := by rfl) (he : starEach (e :: es) X.env = (false, eval e X.env) :: starEach es X.env := by rfl) (ha : PA X (e :: es) t)
    (hdb : (x == ("__debug__" : Str)) = false := by decide) :
    PE X (.Call (.Name x p) (e :: es) [] pos) (tMake (He.ga X.K x) sp [] E t) := by
  obtain ⟨fd, F, hb⟩ := g.fn
  exact pe_make M F hr hg hm hb .nil hx ha hdb he hpl
theorem pe_lenY {k : Nat} {C : Str} {ps : List Str} {sp : Sp} (g : GoodM X.prog X.w X.K X.mg X.base k C "__len__" ps sp) (hr : Room (k + 1) X.A) (hg : Gl X "len") (hm : X.mg "len" = none) (ha : PA X [e] t)
    (he : starEach [e] X.env = [(false, eval e X.env)] := by rfl) : PE X (.Call (.Name "len" p) [e] [] pos) (tCB (rLenO (He.ga X.K C) sp) t) := by
  obtain ⟨fd, F, hb⟩ := g.fn
  exact pe_callB (es := []) (call_lenO F g.mt hr hb) hg hm boot_len ha (he := he)
/-! ### built-ins under short names -/
def uMax2 : List V → Hp → VK → Prop := fun xs H Q => ∃ i j, xs = [.int i, .int j] ∧ Q (.int (if j > i then j else i)) H
def uMin2 : List V → Hp → VK → Prop := fun xs H Q => ∃ i j, xs = [.int i, .int j] ∧ Q (.int (if j < i then j else i)) H
def rInt : List V → Hp → VK → Prop := fun xs H Q => (∃ i, xs = [.int i] ∧ Q (.int i) H) ∨ ∃ k, xs = [.bl k] ∧ Q (.int (if k then 1 else 0)) H
/-! ### the text of a value -/
/-! ### methods of texts -/
def rJoin (K : PySem.W.Frag) : V → List V → Hp → VK → Prop := fun x xs H Q => ∃ a p, ∃ ys : List Str, x = .str a ∧ xs = [.ref p] ∧ (SqL K H p (ys.map V.str) ∨ SqT K H p (ys.map V.str)) ∧ (ys.map (·.length)).sum + ys.length * a.length ≤ 16777216 ∧ Q (.str (Txt.join a ys)) H
/-- sep.join(e), one argument: told over the argument list -/
def tJoin (K : PySem.W.Frag) (to : TE) (te : TE) : TE := tM1 (rJoin K) to te
theorem pe_joinU (ho : PE X o te) {td : TE} (he : PE X e td) (hs : starEach [e] X.env = [(false, eval e X.env)] := by rfl) (hbase : attributeBase o "join" X.env (eval o X.env) = eval o X.env := by rfl) (hline : (apos.endLine == pos.line) = true := by rfl) :
    PE X (.Call (.Attribute o "join" apos) [e] [] pos) (tJoin X.K te td) := pe_join ho he hs hbase hline
/-! ### list(..), tuple(..) -/
def strL (z : Str) : List V := z.cps.toList.map fun c => .str ⟨#[c]⟩
def uLst (K : PySem.W.Frag) : List V → Hp → VK → Prop := fun xs H Q => match xs with
  | [.ref p] => ∃ ys, (SqL K H p ys ∨ SqT K H p ys) ∧ ∀ l, H l = none → Q (.ref l) (upd H l (.lst ys))
  | [.str z] => z.length ≤ 100000 ∧ ∀ l, H l = none → Q (.ref l) (upd H l (.lst (strL z)))
  | _ => False
theorem vals_signs {z : Str} {acc : Array Value} (h : ItemsOf (SignAt z) acc z.cps.size) : Vals (strL z) acc.toList := by
  refine vals_of_at ?_ fun j x u hx hu => ?_
  · unfold strL
    rw [List.length_map, Array.length_toList, Array.length_toList, h.1]
  · unfold strL at hx
    rw [List.getElem?_map] at hx
    obtain ⟨c, hc, rfl⟩ := Option.map_eq_some_iff.mp hx
    obtain ⟨c', u', h1, h2⟩ := h.2 j u (by rw [← Array.getElem?_toList]; exact hu)
    rw [Array.getElem?_toList, h1] at hc
    cases hc
    exact ⟨u', h2⟩
theorem call_uLst (hc : X.calm = true) : CallR X (.type "list") (uLst X.K) := by
  intro ps s σ H xs us R I r h
  match xs, h with
  | [.ref p], ⟨ys, hs, q⟩ => exact call_list_of ps s σ H _ us R I r ⟨p, ys, rfl, hs, q⟩
  | [.str z], ⟨hz, q⟩ =>
    obtain ⟨_, rfl, t, rfl⟩ := vals1 r
    have hs := sizeLine_eq
    have hz' : z.cps.size ≤ 100000 := hz
    refine PySem.call_list_str (I.ok.hd hc) z t (fun h' tk acc c kp e it => ?_) (by omega)
    refine ⟨.ref s.heap.objs.size, _, I.laid (t' := tk) kp (Nat.le_refl _) (show ObjOk X.prog X.w _ h' _ (.lst (strL z)) from ⟨?_, acc.toList, c, vals_signs it, e⟩), rfl, q _ (I.hok.fresh (Nat.le_refl _))⟩
    unfold strL
    simp only [List.length_map, Array.length_toList]
    omega
def uTup (K : PySem.W.Frag) : List V → Hp → VK → Prop := fun xs H Q => match xs with
  | [.ref p] => ∃ ys, (SqL K H p ys ∧ ∀ l, H l = none → Q (.ref l) (upd H l (.tup ys))) ∨ (SqT K H p ys ∧ Q (.ref p) H)
  | [.str z] => z.length ≤ 100000 ∧ ∀ l, H l = none → Q (.ref l) (upd H l (.tup (strL z)))
  | _ => False
theorem call_uTup (hc : X.calm = true) : CallR X (.type "tuple") (uTup X.K) := by
  intro ps s σ H xs us R I r h
  match xs, h with
  | [.ref p], ⟨ys, h⟩ => exact call_tuple_of ps s σ H _ us R I r ⟨p, ys, rfl, h⟩
  | [.str z], ⟨hz, q⟩ =>
    obtain ⟨_, rfl, t, rfl⟩ := vals1 r
    have hs := sizeLine_eq
    have hz' : z.cps.size ≤ 100000 := hz
    refine PySem.call_tuple_str (I.ok.hd hc) z t (fun h' tk acc kp it => ?_) (by omega)
    have I1 := I.kept (h' := h') (t' := s.toks) kp
    have I2 : Inv X ps σ (upd H h'.objs.size (.tup (strL z))) { s with heap := h'.push { cls := .type "tuple", data := .seq acc }, toks := tk } :=
      I1.laid (t' := tk) (fun b o e => Heap.get?_push_of_some _ e) (Nat.le_refl _) (show ObjOk X.prog X.w _ _ _ (.tup (strL z)) from ⟨by
        unfold strL
        simp only [List.length_map, Array.length_toList]
        omega, acc.toList, vals_signs it, IsTup.new _ _⟩)
    refine ⟨.ref h'.objs.size, _, I2, rfl, ?_⟩
    exact q _ (I1.hok.fresh (Nat.le_refl _))
/-! ### what a for walks: a list or a tuple -/
def iSeq (K : PySem.W.Frag) (tl : TE) : TI := fun σ H R => iList K tl σ H R ∨ iTup K tl σ H R
theorem pi_seq {tg l : Expr} {tl : TE} (hl : PE X l tl) : PI X tg l (iSeq X.K tl) := by
  refine .mk ?_
  intro pins s σ H R I h
  rcases h with h | h
  · exact (pi_list hl).run pins s σ H R I h
  · exact (pi_tup hl).run pins s σ H R I h
def tTruth (K : PySem.W.Frag) (ta : TE) : TT := fun σ H Q => ta σ H fun x H' => ∃ k, TruV K x H' k ∧ Q k H'

end
end U
namespace U
open PySem PySem.Spec PyProof.Rows L2

/-! ### enumerate(text) -/
def IteS (z : Str) : It :=
  ⟨fun i _ => i < z.cps.size, fun i H v H' => ∃ T c, v = .ref T ∧ H T = none ∧ z.cps[i]? = some c ∧ H' = upd H T (.tup [.int (i : Nat), .str ⟨#[c]⟩]), fun i _ => i = z.cps.size⟩
/-- the text's own iterator at it, at its i-th sign -/
def SIt (it : Addr) (z : Str) (t : Tok) (i : Nat) (h : Heap) : Prop := h.IsStrIter it (strIterType z) z t i
theorem draws_str {P : Program} {w : World} {A : Around} (hh : A.handled = none) (it : Addr) (z : Str) (t : Tok) :
    Draws P w A it [it] z.cps.size (fun i v => ∃ c u, z.cps[i]? = some c ∧ v = .str ⟨#[c]⟩ u) (SIt it z t) := by
  unfold SIt strIterType
  split
  · exact Draws.strAscii hh it z t
  · exact Draws.strWide hh it z t
theorem turn_enumS {P : Program} {w : World} {K : PySem.W.Frag} {el : List Expr} {kk : Nat} {tp : Pos} (z : Str) (t : Tok) (e it : Addr) :
    Turn P w K (.Tuple el kk tp) (IteS z) [e, it] e (fun i h => (∃ old, IsEnum h e it ((i : Nat) : Int) old) ∧ SIt it z t i h ∧ e ≠ it) where
  mem := by simp
  obj := fun i h st b hb => by
    obtain ⟨⟨last, he⟩, itr, _⟩ := st
    obtain ⟨o, ho, hc, hd⟩ := itr
    rcases (show b = e ∨ b = it by simpa using hb) with q | q
    · subst q
      exact ⟨_, he, fun v q => nomatch q⟩
    · subst q
      exact ⟨o, ho, fun v q => by rw [hd] at q; cases q⟩
  keep := fun i h h' st k => by
    obtain ⟨⟨old, he⟩, ⟨o, ho, r⟩, ne⟩ := st
    exact ⟨⟨old, k e (by simp) _ he⟩, ⟨o, k it (by simp) o ho, r⟩, ne⟩
  item := by
    intro X hP hw hK hc
    intro i pins s σ H E I hf st hg
    subst hP hw hK
    obtain ⟨⟨old, he⟩, hit, ne⟩ := st
    have le := Heap.lt_size he
    have li : it < s.heap.objs.size := by
      obtain ⟨_, q, _⟩ := id hit
      exact Heap.lt_size q
    refine wpAny_pyNext_enum_itemD (draws_str (A := X.A.in1) (I.ok.hd hc) it z t) he hit hg ne (by simpa using ne) fun x h1 tk hx ho hit1 hT hz1 k1 => ?_
    obtain ⟨c, u, hcz, rfl⟩ := hx
    refine ⟨_, rfl, wpAny_letOwnedTupleGo_enum (s := { s with heap := h1, toks := tk + 1 }) ho fun h2 he2 sb => ?_⟩
    have T2 : h2.get? s.heap.objs.size = some { cls := .type "tuple", data := .seq #[.int i tk, .str ⟨#[c]⟩ u] } := (sb.2 _ (Nat.ne_of_gt le)).trans hT
    have new : ObjOk X.prog X.w (upd H s.heap.objs.size (.tup [.int (i : Nat), .str ⟨#[c]⟩])) h2 s.heap.objs.size (.tup [.int (i : Nat), .str ⟨#[c]⟩]) :=
      ⟨by show 2 ≤ sizeLine; decide, [.int i tk, .str ⟨#[c]⟩ u], .cons ⟨_, rfl⟩ (.cons ⟨_, rfl⟩ .nil), ⟨_, T2, rfl, _, rfl⟩⟩
    have I1 : Inv X pins σ (upd H s.heap.objs.size (.tup [.int (i : Nat), .str ⟨#[c]⟩])) { s with heap := h2, toks := tk + 1 } :=
      I.turnedNew (ch := [e, it]) (fun b ob hb q => (sb.2 b (fun y => hb (by simp [y]))).trans (k1 b ob (fun y => hb (by simp [y])) (fun y => hb (by simp [y])) q)) hf (Nat.le_refl _) new
    refine ⟨.ref s.heap.objs.size, _, I1, rfl, ⟨_, c, rfl, I.hok.fresh (Nat.le_refl _), hcz, rfl⟩, ⟨⟨.str ⟨#[c]⟩ u, ?_⟩, ?_, ne⟩, fun b hb => ?_⟩
    · rw [show ((i + 1 : Nat) : Int) = i + 1 by omega]
      exact he2
    · obtain ⟨o, q1, q2⟩ := hit1
      exact ⟨o, (sb.2 it (Ne.symm ne)).trans q1, q2⟩
    · have below : b < s.heap.objs.size := by
        rcases (show b = e ∨ b = it by simpa using hb) with q | q
        · rw [q]; exact le
        · rw [q]; exact li
      rw [upd_ne (Nat.ne_of_lt below)]
      exact (hf b hb).1
  done := by
    intro X hP hw hK hc
    intro i pins s σ H E I hf st hg
    subst hP hw hK
    obtain ⟨⟨old, he⟩, hit, ne⟩ := st
    obtain ⟨f0, f1, _, f3, f4, f5⟩ := hf it (by simp)
    have hi : i = z.cps.size := hg
    subst hi
    exact wpAny_pyNext_enum_endD (draws_str (A := X.A.in1) (I.ok.hd hc) it z t) he hit fun h' eb => ⟨rfl, I.turned (t' := s.toks) (fun b o hb q => eb b o hb q) f0 f1 f3 f4 f5⟩
  self := fun _ _ _ _ _ st h => by
    obtain ⟨⟨_, he⟩, _⟩ := st
    exact wpAny_pyIter_enum he h

def iEnumS (ta : TA) : TI := fun σ H R => ta σ H fun vs H1 => ∃ z, vs = [.str z] ∧ R (IteS z) H1
theorem pi_enumS {X : Cx} {e : Expr} {ta : TA} {p pos tpos : Pos} {elts : List Expr} {kk : Nat} (hg : Gl X "enumerate") (hm : X.mg "enumerate" = none) (ha : PA X [e] ta) (hs : starEach [e] X.env = [(false, eval e X.env)] := by rfl) :
    PI X (.Tuple elts kk tpos) (.Call (.Name "enumerate" p) [e] [] pos) (iEnumS ta) := by
  refine .mk ?_
  intro pins s σ H R I h
  refine Call_ (ld_blt I hg hm boot_enumerate (PyProof.Rows.callWith_type1 (thn (ha.run pos pins s σ H _ I h) fun us s1 z => ?_) hs rfl))
  obtain ⟨vs, H1, I1, r1, z, ex, q⟩ := z
  subst ex
  obtain ⟨u, rfl, t, rfl⟩ := vals1 r1
  refine PySem.call_enumerate_str fun h' he hit hsz hk => wpAny_pyIter_enum he ?_
  have I2 : Inv X pins σ H1 { s1 with heap := h' } := by
    exact I1.kept (t' := s1.toks) hk
  refine ⟨s1.heap.objs.size + 1, [s1.heap.objs.size + 1, s1.heap.objs.size], _, _, H1, rfl, I2, turn_enumS z t (s1.heap.objs.size + 1) s1.heap.objs.size, ⟨⟨.none, he⟩, hit, Nat.succ_ne_self _⟩, fun b hb => ?_, q⟩
  have hb2 : s1.heap.objs.size ≤ b := by
    rcases (show b = s1.heap.objs.size + 1 ∨ b = s1.heap.objs.size by simpa using hb) with q | q
    · exact q ▸ Nat.le_succ _
    · exact q ▸ Nat.le_refl _
  exact I1.fpOk hb2 (I1.hok.fresh hb2)
def iEnumU (K : PySem.W.Frag) (ta : TA) : TI := fun σ H R => iEnum K ta σ H R ∨ iEnumS ta σ H R
theorem pi_enumU {X : Cx} {e : Expr} {ta : TA} {p pos tpos : Pos} {elts : List Expr} {kk : Nat} (hg : Gl X "enumerate") (hm : X.mg "enumerate" = none) (ha : PA X [e] ta) (hs : starEach [e] X.env = [(false, eval e X.env)] := by rfl) :
    PI X (.Tuple elts kk tpos) (.Call (.Name "enumerate" p) [e] [] pos) (iEnumU X.K ta) := by
  refine .mk ?_
  intro pins s σ H R I h
  rcases h with h | h
  · exact (pi_enum hg hm ha hs).run pins s σ H R I h
  · exact (pi_enumS hg hm ha hs).run pins s σ H R I h
/-! ### comprehensions and loops, seen from their turns -/
/-- what an element does to the list under way at D -/
def Snoc (D : Addr) (N : Hp → Prop) : VK := fun y H => ∃ acc : List V, H D = some (.lst acc) ∧ acc.length < sizeLine ∧ N (upd H D (.lst (acc ++ [y])))
/-- one turn of a comprehension -/
def lcT (g : TG) (tt : TT) (te : TE) (vs : List Nat) (σ : L2.St) (D : Addr) (N : Hp → Prop) (x : V) (H : Hp) : Prop :=
  g x (wipe σ vs) H fun τ H2 => wipe τ vs = wipe σ vs ∧ tt τ H2 fun b H3 => if b = true then te τ H3 (Snoc D N) else N H3
/-- turns of an iterator to its end: B x H N is a turn behind which N holds -/
def Laps (J : It) (H0 : Hp) (fin : Hp → Prop) (B : V → Hp → (Hp → Prop) → Prop) : Prop :=
  ∃ W : Nat → Nat → Hp → Prop, (∃ m, W 0 m H0) ∧ ∀ (i m : Nat) (H : Hp), W i m H →
    (J.stop i H ∧ fin H) ∨ (J.go i H ∧ ∃ N : Hp → Prop, (∀ H', N H' → ∃ l, l < m ∧ W (i + 1) l H') ∧ ∀ x H', J.yld i H x H' → B x H' N)
def LcB (J : It) (g : TG) (tt : TT) (te : TE) (vs : List Nat) (σ : L2.St) (H : Hp) (D : Addr) (fin : Hp → Prop) : Prop :=
  Laps J (upd H D (.lst [])) fin fun x H' N => lcT g tt te vs σ D N x H'
end U
namespace U
open PySem PySem.Spec PyProof.Rows L2

/-! ### text[::-1] -/
def tRevS (te : TE) : TE := fun σ H Q => te σ H fun x H1 => ∃ z, x = .str z ∧ z.length ≤ sizeLine ∧ ∀ u, Q (.str (Txt.sliceBy z none none (-1, u))) H1
theorem pe_revS {X : Cx} {e : Expr} {te : TE} {k : Nat} {p1 p2 p3 pos : Pos} (he : PE X e te) : PE X (.Subscript e (.Slice none none (some (.UnaryOp .USub (.Constant (.int 1) k p1) p2)) p3) pos) (tRevS te) := by
  refine ⟨fun pins s σ H Q I h => ?_⟩
  refine Subscript_ (thn (he.run pins s σ H _ I h) fun v s1 z => ?_)
  obtain ⟨x, H1, I1, r1, y, ex, hz, q⟩ := z
  subst ex
  obtain ⟨t, rfl⟩ := r1
  have neg1 : PO X (some (.UnaryOp .USub (.Constant (.int 1) k p1) p2)) (tPart (tUn (rU fun i => .int (-i)) (tC (.int 1)))) := po_some (pe_un un_neg pe_int)
  rw [show eval (.Slice none none (some (.UnaryOp .USub (.Constant (.int 1) k p1) p2)) p3) X.env = eval (.Slice none none (some (.UnaryOp .USub (.Constant (.int 1) k p1) p2)) p3) X.env from rfl]
  refine wpAny_Slice ?_
  rw [evalPart_none]
  apply wpAny_pure
  apply wpAny_pure
  refine thn (neg1.run pins s1 σ H1 (fun o H4 => o = some (-1) ∧ H4 = H1) I1 ⟨1, rfl, -1, rfl, rfl, rfl⟩) fun vs s4 z => ?_
  obtain ⟨o, H4, I4, ps, eo, e4⟩ := z
  subst eo e4
  obtain ⟨l, el, em⟩ := IsPart.raw ps
  obtain ⟨u, rfl⟩ : ∃ u, l = some (-1, u) := by
    cases l with
    | none => cases em
    | some pr =>
      obtain ⟨a, u⟩ := pr
      have e2 : a = -1 := Option.some.inj em
      exact ⟨u, by rw [e2]⟩
  subst el
  refine tail_any (ops := [.ref s4.heap.objs.size, .str y t]) (typeIs_str _ _ _) F.slot_str_getitem.lookup
    (wpAny_getItem_str_slice (l := none) (u := none) (st := some (-1, u)) ⟨_, Heap.get?_push_size _ rfl, rfl, rfl⟩ rfl ?_) (by with_unfolding_all rfl)
  exact post_val_or_str ⟨Nat.le_trans (Txt.sliceBy_le y _ _ (-1, u) (by show (-1 : Int) ≠ 0; decide)) hz, fun t' c => ⟨.str (Txt.sliceBy y none none (-1, u)), H4, I4.kept (t' := c) fun b ob z => Heap.get?_push_of_some _ z, ⟨_, rfl⟩, q u⟩⟩
/-! ### raise C(e) of one's own exceptions, whose __init__ keeps one field -/
/-- what the written part says of such a class -/
def oexB (K : PySem.W.Frag) (C : Addr) : Bool := match K.lookup C with
  | some ⟨.type "type", dd, .cls cd, sl⟩ => (match cd.mro, sl.toList with
    | .ref C' :: bm, [_, _, _, _, some (.builtin n), _] => (C' == C && n == "ValueError.__new__") && (!cd.hasDel && cd.hasDict && PySem.HandSPX.refsVE bm)
    | _, _ => false)
  | _ => false
theorem oexB_ok {K : PySem.W.Frag} {C : Addr} (q : oexB K C = true) : ∃ nm qn N bs bm sn sub ab col dd k0 k1 k2 k3 k5, K.lookup C = some (excClassObj nm qn C N bs bm true sn sub ab col dd k0 k1 k2 k3 k5 "ValueError.__new__") ∧ PySem.HandSPX.refsVE bm = true := by
  unfold oexB at q
  split at q
  · rename_i dd cd sl ho
    split at q
    · rename_i own rest a0 a1 a2 a3 maker a5 order cells
      simp only [Bool.not_eq_true', beq_iff_eq, Bool.and_eq_true] at q
      obtain ⟨⟨eo, em⟩, ⟨nodel, dict1⟩, ground⟩ := q
      subst eo em
      obtain ⟨name, bases, line, space, qname, hasd, sl1, sl2, abst, coll, dels⟩ := cd
      dsimp only at order nodel dict1
      subst order nodel dict1
      have row : sl = #[a0, a1, a2, a3, some (.builtin "ValueError.__new__"), a5] := by
        obtain ⟨l⟩ := sl
        exact congrArg Array.mk cells
      subst row
      exact ⟨name, qname, space, bases, rest, sl1, sl2, abst, coll, dd, a0, a1, a2, a3, a5, ho, ground⟩
    · cases q
  · cases q
/-- all that the head tells of an exception class -/
def excB (K : PySem.W.Frag) (x f : Str) : Bool := oexB K (He.ga K x) && (He.eqO (PySem.W.findIn K (.ref (He.ga K x)) "__setattr__") (some (some (.builtin "object.__setattr__"))) && (decide (PySem.W.subIn K (.ref (He.ga K x)) (.type "BaseException") = some true) &&
  (decide (PySem.W.typeIn K (.ref (He.ga K x)) = some (.type "type")) && (PySem.W.keepIn K (.ref (He.ga K x)) && (He.eqO (PySem.W.findIn K (.ref (He.ga K x)) f) (some none) &&
  (He.eqO (PySem.W.findIn K (.ref (He.ga K x)) "__init__") (some (some (.ref (He.ma K (He.ga K x) "__init__")))) && decide (PySem.W.typeIn K (.ref (He.ma K (He.ga K x) "__init__")) = some (.type "function"))))))))
structure ExcT (K : PySem.W.Frag) (x f : Str) : Prop where
  oc : OexC K (He.ga K x)
  nf : PySem.W.findIn K (.ref (He.ga K x)) f = some none
  ini : PySem.W.findIn K (.ref (He.ga K x)) "__init__" = some (some (.ref (He.ma K (He.ga K x) "__init__")))
  fn : PySem.W.typeIn K (.ref (He.ma K (He.ga K x) "__init__")) = some (.type "function")
theorem excB_ok {K : PySem.W.Frag} {x f : Str} (h : excB K x f = true) : ExcT K x f := by
  unfold excB at h
  simp only [decide_eq_true_eq, Bool.and_eq_true] at h
  obtain ⟨h1, h2, h3, h4, h5, h6, h7, h8⟩ := h
  exact ⟨⟨oexB_ok h1, He.eqO_ok h2, h3, h4, h5⟩, He.eqO_ok h6, He.eqO_ok h7, h8⟩
/-- the promise of its __init__ -/
def spExcI (K : PySem.W.Frag) (x f : Str) : Sp := fun vs H Q _ => ∃ (a : Addr) (v : V), vs = [.ref a, v] ∧ H a = some (exo a (He.ga K x) none) ∧ ∀ dx, H dx = none → dx ≠ a → Q .non (upd (upd H dx (exd dx [(f, v)])) a (exo a (He.ga K x) (some dx)))
theorem spExcI_len {K : PySem.W.Frag} {x f : Str} {n : Str} : ∀ vs H Q E, spExcI K x f vs H Q E → vs.length = (["self", n] : List Str).length := by
  intro vs H Q E h
  obtain ⟨a, v, rfl, _⟩ := h
  rfl
theorem read_excI {K : PySem.W.Frag} {x f : Str} (T : ExcT K x f) {vs : List V} {H : Hp} {Q : VK} {E : XK} (h : spExcI K x f vs H Q E) {n : Str} :
    tOst K f (tVar 0) (tVar 1) { nx := fun _ H' => Q .non H', rt := Q } (start ["self", n] vs) H := by
  obtain ⟨a, v, rfl, ha, q⟩ := h
  exact ⟨v, rfl, .ref a, rfl, a, He.ga K x, rfl, T.oc, T.nf, .inl ⟨ha, q⟩⟩
/-- an own exception class that may be raised -/
structure GoodX (P : Program) (w : World) (K : PySem.W.Frag) (mg : Str → Option Value) (base : Heap) (x f : Str) : Prop where
  fn : ∃ fd, FnOk P w K mg base (L2.CX P w) 1 (He.ma K (He.ga K x) "__init__") fd ["self", f] (spExcI K x f) ∧ Binds K fd ["self", f] []
  t : ExcT K x f
  mg : mg x = some (.ref (He.ga K x))
def tRse (K : PySem.W.Frag) (c f : Str) (E : XK) (ta : TA) : TS := fun _ σ H => tMkO (He.ga K c) (spExcI K c f) [] ta σ H fun cls d H' => E cls d H'
theorem back_one {H1 : Hp} {a dx : Addr} {fs : List (Str × V)} {o1 o2 o3 : HO} (ha : H1 a = none) (hne : dx ≠ a) : upd (del (upd (upd (upd H1 a o1) dx o2) a o3) a) dx (.xd fs) = upd H1 dx (.xd fs) := by
  funext b
  unfold upd del
  by_cases h1 : b = dx
  · rw [if_pos h1, if_pos h1]
  · rw [if_neg h1, if_neg h1]
    by_cases h2 : b = a
    · rw [if_pos h2, h2, ha]
    · simp only [if_neg h2, if_neg h1]
theorem ps_rse {X : Cx} {c f : Str} {E : XK} {e : Expr} {ta : TA} {p pos pos2 : Pos} (g : GoodX X.prog X.w X.K X.mg X.base c f) (hr : Room 2 X.A) (hc : X.calm = true) (tk : Takes X fun cls d _ H => E cls d H) (hg : Gl X c) (ha : PA X [e] ta)
    (hdb : (c == ("__debug__" : Str)) = false := by decide) (he : starEach [e] X.env = [(false, eval e X.env)] := by rfl) :
    PS X (.Raise (some (.Call (.Name c p) [e] [] pos)) none pos2) (tRse X.K c f E ta) := by
  obtain ⟨fd, F, hb⟩ := g.fn
  exact ps_raise hc tk (pmk_oex (es := []) g.t.oc g.t.ini g.t.fn F hr hb .nil passL hg g.mg ha hdb he)
/-- what is asked behind the argument of such a raise -/
theorem rse_of {K : PySem.W.Frag} {c f : Str} {E : XK} {v : V} {H1 : Hp} (h : ∀ d, H1 d = none → E (.ref (He.ga K c)) (some d) (upd H1 d (.xd [(f, v)]))) :
    [v].length ≤ 1000 ∧ ∀ a, H1 a = none → spExcI K c f (.ref a :: ([v] ++ [])) (upd H1 a (exo a (He.ga K c) none))
      (fun x H2 => x = .non ∧ ∃ (d : Addr) (fs : List (Str × V)), H2 a = some (exo a (He.ga K c) (some d)) ∧ H2 d = some (exd d fs) ∧ H1 d = none ∧ E (.ref (He.ga K c)) (some d) (upd (del H2 a) d (.xd fs))) (fun _ _ _ => False) := by
  refine ⟨by simp, fun a ha => ⟨a, v, rfl, upd_same, fun dx hd hne => ?_⟩⟩
  rw [upd_ne hne] at hd
  refine ⟨rfl, dx, [(f, v)], upd_same, ?_, hd, ?_⟩
  · rw [upd_ne hne, upd_same]
  · rw [back_one ha hne]
    exact h dx hd
end U
namespace U
open PySem PySem.Spec PyProof.Rows L2

/-! ### a def of the module, wherever it is called from -/
structure GoodO (P : Program) (w : World) (K : PySem.W.Frag) (mg : Str → Option Value) (base : Heap) (k : Nat) (x : Str) (ps : List Str) (sp : Sp) : Prop where
  fn : ∃ fd, FnOk P w K mg base (L2.CX P w) k (He.ga K x) fd ps sp ∧ Binds K fd ps []
  mg : mg x = some (.ref (He.ga K x))
  kp : PySem.W.keepIn K (.ref (He.ga K x)) = true
section
variable {X : Cx} {k : Nat} {x m : Str} {ps : List Str} {sp : Sp} {E : XK} {p pos apos : Pos} {e o : Expr} {es : List Expr} {ta : TE} {t : TA}
theorem tFn_eq (sp : Sp) (E : XK) (t : TA) : tCall sp [] E t = tFn sp E t := by
  unfold tCall tFn
  simp only [List.append_nil]
theorem pe_fo (g : GoodO X.prog X.w X.K X.mg X.base k x ps sp) (hr : Room k X.A) (hg : Gl X x) (hx : Passes (L2.CX X.prog X.w) X E)
    (hpl : (backTo pos (starEach es X.env)).any (·.1) = false := by rfl) (he : starEach (e :: es) X.env = (false, eval e X.env) :: starEach es X.env := by rfl) (ha : PA X (e :: es) t)
    (hdb : (x == ("__debug__" : Str)) = false := by decide) :
    PE X (.Call (.Name x p) (e :: es) [] pos) (tFn sp E t) := by
  obtain ⟨fd, F, hb⟩ := g.fn
  exact tFn_eq sp E t ▸ pe_call F hr hg g.mg g.kp hb .nil hx ha hdb he hpl
end
/-! ### promises by the number of arguments -/
def sp1 (f : V → Hp → VK → XK → Prop) : Sp := fun vs H Q E => match vs with
  | [x] => f x H Q E
  | _ => False
def sp2 (f : V → V → Hp → VK → XK → Prop) : Sp := fun vs H Q E => match vs with
  | [x, y] => f x y H Q E
  | _ => False
def sp3 (f : V → V → V → Hp → VK → XK → Prop) : Sp := fun vs H Q E => match vs with
  | [x, y, z] => f x y z H Q E
  | _ => False
def sp4 (f : V → V → V → V → Hp → VK → XK → Prop) : Sp := fun vs H Q E => match vs with
  | [x, y, z, u] => f x y z u H Q E
  | _ => False
theorem sp1_len {f : V → Hp → VK → XK → Prop} {a : Str} : ∀ vs H Q E, sp1 f vs H Q E → vs.length = ([a] : List Str).length := fun vs H Q E h => match vs, h with
  | [_], _ => rfl
theorem sp2_len {f : V → V → Hp → VK → XK → Prop} {a b : Str} : ∀ vs H Q E, sp2 f vs H Q E → vs.length = ([a, b] : List Str).length := fun vs H Q E h => match vs, h with
  | [_, _], _ => rfl
theorem sp3_len {f : V → V → V → Hp → VK → XK → Prop} {a b c : Str} : ∀ vs H Q E, sp3 f vs H Q E → vs.length = ([a, b, c] : List Str).length := fun vs H Q E h => match vs, h with
  | [_, _, _], _ => rfl
theorem sp4_len {f : V → V → V → V → Hp → VK → XK → Prop} {a b c d : Str} : ∀ vs H Q E, sp4 f vs H Q E → vs.length = ([a, b, c, d] : List Str).length := fun vs H Q E h => match vs, h with
  | [_, _, _, _], _ => rfl
/-! ### kinds of values -/
inductive Ty where
  | non | bl | int | str | lst | tup | dct | yard
  deriving DecidableEq
def Ty.v (K : PySem.W.Frag) : Ty → Value
  | .non => .type "NoneType"
  | .bl => .type "bool"
  | .int => .type "int"
  | .str => .type "str"
  | .lst => .type "list"
  | .tup => .type "tuple"
  | .dct => .type "dict"
  | .yard => .ref (He.ga K "Yard")
def Ty.all : List Ty := [.non, .bl, .int, .str, .lst, .tup, .dct, .yard]
theorem Ty.mem_all (a : Ty) : a ∈ Ty.all := by cases a <;> decide
def Ty.sub (a b : Ty) : Bool := decide (a = b) || (decide (a = .bl) && decide (b = .int))
/-- a value of a kind -/
def Is (K : PySem.W.Frag) (H : Hp) (x : V) (a : Ty) : Prop := TyX K H x (a.v K)
/-- a tuple of the module without a dict -/
def tupO (K : PySem.W.Frag) (x : Str) : Bool := match K.lookup (He.ga K x) with
  | some o => decide (o.cls = .type "tuple") && o.dict.isNone
  | none => false
theorem tupO_ok {K : PySem.W.Frag} {x : Str} (h : tupO K x = true) (H : Hp) : tyV K "tuple" (.ref (He.ga K x)) H := by
  unfold tupO at h
  split at h
  · rename_i o ho
    simp only [Bool.and_eq_true, decide_eq_true_eq, Option.isNone_iff_eq_none] at h
    exact .inr (.inl ⟨rfl, o, ho, h.1, h.2⟩)
  · cases h
/-- what the head tells, whatever the law -/
def kfB (K : PySem.W.Frag) : Bool := (Ty.all.all fun a => Ty.all.all fun b => decide (PySem.W.kitOne K (a.v K) (b.v K) = some (a.sub b))) &&
  (He.tupB K "PLACES" [.str "a", .str "b", .str "c"] && (He.tupB K "WAYS" [.str "ab", .str "ac", .str "ba", .str "bc", .str "ca", .str "cb"] &&
  ((He.Fa.cls "Yard").ok K && ((He.Fa.noat "Yard" "_rows").ok K && (He.eqO (PySem.W.findIn K (.ref (He.ga K "Yard")) "__class__") (some (some (.builtin "object.__class__"))) &&
  (He.eqO (PySem.W.specialIn K (.builtin "object.__class__") "__get__") (some (some (.builtin "getset_descriptor.__get__"))) && (decide (PySem.W.takesIn K (.builtin "object.__class__") = some true) && (decide (PySem.W.mroIn K (He.ga K "Yard") (.type "object") = some true) && (tupO K "PLACES" && (tupO K "WAYS" && ((He.Fa.noat "Yard" "_reckoning").ok K && (Ty.all.all fun a => PySem.W.notFirst K (He.ga K "Yard") (a.v K)))))))))))))
structure KF (K : PySem.W.Frag) : Prop where
  kit : ∀ a b : Ty, PySem.W.kitOne K (a.v K) (b.v K) = some (a.sub b)
  places : ∀ H, SqT K H (He.ga K "PLACES") [.str "a", .str "b", .str "c"]
  ways : ∀ H, SqT K H (He.ga K "WAYS") [.str "ab", .str "ac", .str "ba", .str "bc", .str "ca", .str "cb"]
  cl : Cls K (He.ga K "Yard")
  na : NoAttr K (He.ga K "Yard") "_rows"
  c1 : PySem.W.findIn K (.ref (He.ga K "Yard")) "__class__" = some (some (.builtin "object.__class__"))
  c2 : PySem.W.specialIn K (.builtin "object.__class__") "__get__" = some (some (.builtin "getset_descriptor.__get__"))
  c3 : PySem.W.takesIn K (.builtin "object.__class__") = some true
  c4 : PySem.W.mroIn K (He.ga K "Yard") (.type "object") = some true
  pO : ∀ H, tyV K "tuple" (.ref (He.ga K "PLACES")) H
  wO : ∀ H, tyV K "tuple" (.ref (He.ga K "WAYS")) H
  na2 : NoAttr K (He.ga K "Yard") "_reckoning"
  nf : ∀ a : Ty, PySem.W.notFirst K (He.ga K "Yard") (a.v K) = true
theorem kfB_ok {K : PySem.W.Frag} (h : kfB K = true) : KF K := by
  unfold kfB at h
  simp only [decide_eq_true_eq, Bool.and_eq_true] at h
  obtain ⟨h1, h2, h3, h4, h5, h6, h7, h8, h9, h10, h11, h12, h13⟩ := h
  refine ⟨fun a b => ?_, fun H => He.tupB_ok h2 H, fun H => He.tupB_ok h3 H, He.cls_ok h4, He.noat_ok h5, He.eqO_ok h6, He.eqO_ok h7, h8, h9, fun H => tupO_ok h10 H, fun H => tupO_ok h11 H, He.noat_ok h12, fun a => List.all_eq_true.mp h13 a a.mem_all⟩
  have := List.all_eq_true.mp (List.all_eq_true.mp h1 a a.mem_all) b b.mem_all
  exact of_decide_eq_true this
section
variable {K : PySem.W.Frag} {H : Hp} {x : V}
theorem is_non : Is K H .non .non := .base .non
theorem is_bl (b : Bool) : Is K H (.bl b) .bl := .base (.bl b)
theorem is_int (i : Int) : Is K H (.int i) .int := .base (.int i)
theorem is_str (z : Str) : Is K H (.str z) .str := .base (.str z)
theorem is_lst {p : Addr} {xs : List V} (h : H p = some (.lst xs)) : Is K H (.ref p) .lst := .base (.lst h)
theorem is_dct {p : Addr} {xs : List (Key × V)} (h : H p = some (.dK xs)) : Is K H (.ref p) .dct := .base (.dK h)
theorem is_sqL {p : Addr} {xs : List V} (h : SqL K H p xs) : Is K H (.ref p) .lst := by
  rcases h with (h | ⟨o, h⟩) | ⟨o, its, n, h, hc, _⟩
  · exact .base (.lst h)
  · exact .base (.frz h)
  · exact .kList h hc
theorem is_sqT {p : Addr} {xs : List V} (h : SqT K H p xs) : Is K H (.ref p) .tup := by
  rcases h with (h | ⟨o, h⟩) | ⟨o, its, n, h, hc, _⟩
  · exact .base (.tup h)
  · exact .fTuple h
  · exact .kTuple h hc
theorem is_yard (F : KF K) {p dx : Addr} {fs : List (Str × V)} (h : H p = some (.ins (He.ga K "Yard") dx fs)) : Is K H (.ref p) .yard := .base (.ins h F.cl F.c1 F.c2 F.c3 F.c4)
/-- only texts are texts, only integers are integers, and so on -/
theorem Is.str_inv (h : Is K H x .str) : ∃ z, x = .str z := by
  have key : ∀ t, TyX K H x t → t = .type "str" → ∃ z, x = .str z := by
    intro t h e
    cases h with
    | base b => cases b <;> first | exact ⟨_, rfl⟩ | (injection e with e; exact absurd e (by decide)) | cases e
    | _ => injection e with e; exact absurd e (by decide)
  exact key _ h rfl
theorem Is.int_inv (h : Is K H x .int) : ∃ z, x = .int z := by
  have key : ∀ t, TyX K H x t → t = .type "int" → ∃ z, x = .int z := by
    intro t h e
    cases h with
    | base b => cases b <;> first | exact ⟨_, rfl⟩ | (injection e with e; exact absurd e (by decide)) | cases e
    | _ => injection e with e; exact absurd e (by decide)
  exact key _ h rfl
theorem Is.bl_inv (h : Is K H x .bl) : ∃ z, x = .bl z := by
  have key : ∀ t, TyX K H x t → t = .type "bool" → ∃ z, x = .bl z := by
    intro t h e
    cases h with
    | base b => cases b <;> first | exact ⟨_, rfl⟩ | (injection e with e; exact absurd e (by decide)) | cases e
    | _ => injection e with e; exact absurd e (by decide)
  exact key _ h rfl
end
/-! ### heaps that keep what they have -/
theorem same_new {H : Hp} {p : Addr} {o : HO} (h : H p = none) : Same H (upd H p o) := fun b u e => by
  rw [upd_ne (ne_of_none e h)]
  exact e
theorem Same.sqT {K : PySem.W.Frag} {H H' : Hp} {a : Addr} {xs : List V} (e : Same H H') (h : SqT K H a xs) : SqT K H' a xs :=
  h.imp (Or.imp (e _ _) fun ⟨o, z⟩ => ⟨o, e _ _ z⟩) id
end U
namespace U
open PySem PySem.Spec PyProof.Rows L2

/-! ### the module's table of thirds -/
def thirds : List (Str × Str) := [("ab", "c"), ("ac", "b"), ("ba", "c"), ("bc", "a"), ("ca", "b"), ("cb", "a")]
end U
namespace U
open PySem PySem.Spec PyProof.Rows L2

/-! ### the module's table of columns -/
def columns : List (Str × Int) := [("ab", 0), ("ac", 1), ("ba", 2), ("bc", 3), ("ca", 4), ("cb", 5)]
def ColK (K : PySem.W.Frag) (w : World) : Prop := ∀ q ∈ columns, KDct K w (He.ga K "COLUMNS") q.1 (.int q.2)
def rCol (K : PySem.W.Frag) : R2 := fun x y H Q => ∃ z v, x = .ref (He.ga K "COLUMNS") ∧ y = .str z ∧ (z, v) ∈ columns ∧ Q (.int v) H
theorem ix_col {X : Cx} (h : ColK X.K X.w) : IxR X (rCol X.K) := by
  intro ea eb pins s σ H x y u v Q I rx ry q
  obtain ⟨z, t, rfl, rfl, hm, q⟩ := q
  exact ix_kdict ea eb pins s σ H _ _ u v Q I rx ry ⟨_, z, _, rfl, rfl, h _ hm, q⟩
def colB (K : PySem.W.Frag) : Bool := He.valsB K (He.ga K "COLUMNS") (columns.map fun q => (q.1, He.Dv.int q.2))
theorem colK_of {K : PySem.W.Frag} {w : World} (hd : ∃ es n, KDict K w (He.ga K "COLUMNS") es n) (hv : colB K = true) : ColK K w := by
  obtain ⟨es, n, h1, h2, h3⟩ := hd
  intro q hq
  obtain ⟨u, e, r⟩ := He.valsB_ok hv (List.mem_map.mpr ⟨q, hq, rfl⟩)
  exact ⟨es, n, u, h1, h2, e, r⟩
/-! ### text.strip(signs), text.rfind(sign) -/
def rStrip : V → List V → Hp → VK → Prop := fun x xs H Q => ∃ a b, x = .str a ∧ xs = [.str b] ∧ a.length ≤ sizeLine ∧ Q (.str (Txt.stripChars a b)) H
theorem mt_stripU {X : Cx} : MtR X "str.strip" rStrip := mt_stripChars
theorem tw_mem {g : Nat → Bool} {l : List Nat} {x : Nat} (h : x ∈ l.takeWhile g) : g x = true := by
  induction l with
  | nil => cases h
  | cons a r ih =>
    rw [List.takeWhile_cons] at h
    split at h
    · rename_i e
      rcases List.mem_cons.mp h with rfl | hr
      · exact e
      · exact ih hr
    · cases h
theorem dw_nil {g : Nat → Bool} {l : List Nat} (h : ∀ x ∈ l, g x = true) : l.dropWhile g = [] := by
  induction l with
  | nil => rfl
  | cons a r ih =>
    rw [List.dropWhile_cons, if_pos (h a List.mem_cons_self)]
    exact ih fun x m => h x (List.mem_cons_of_mem _ m)
theorem strip_nil (a b : Str) : Txt.stripChars a b = "" ↔ ∀ c ∈ a.cps.toList, b.cps.contains c = true := by
  unfold Txt.stripChars
  rw [PySem.W.stripBy_eq]
  show Builtin.Str.strSub a (stripLo b.cps.contains true a) (stripHi b.cps.contains true a (stripLo b.cps.contains true a)) = "" ↔ _
  have el : stripLo b.cps.contains true a = (a.cps.toList.takeWhile b.cps.contains).length := rfl
  have eh : stripHi b.cps.contains true a (stripLo b.cps.contains true a) = a.length - ((a.cps.toList.drop (stripLo b.cps.contains true a)).reverse.takeWhile b.cps.contains).length := rfl
  have en : a.length = a.cps.toList.length := by show a.cps.size = _; simp
  rw [eh, el, en, strSub_mk]
  generalize a.cps.toList = L
  generalize b.cps.contains = g
  have e0 : ∀ l : List Nat, (⟨l.toArray⟩ : Str) = "" ↔ l = [] := fun l => by
    constructor
    · intro h
      have h2 : l.toArray = (#[] : Array Nat) := congrArg Str.cps h
      exact congrArg Array.toList h2
    · rintro rfl
      rfl
  rw [e0]
  have hd : L = L.takeWhile g ++ L.dropWhile g := (List.takeWhile_append_dropWhile).symm
  have e1 : L.drop (L.takeWhile g).length = L.dropWhile g := by
    conv => lhs; rw [hd]
    rw [List.drop_append_of_le_length (by simp), List.drop_of_length_le (by simp), List.nil_append]
  have hl : L.length = (L.takeWhile g).length + (L.dropWhile g).length := by
    conv => lhs; rw [hd]
    exact List.length_append
  rw [e1]
  constructor
  · intro h
    cases hD : L.dropWhile g with
    | nil =>
      rw [hD, List.append_nil] at hd
      intro c hc
      rw [hd] at hc
      exact tw_mem hc
    | cons d r =>
      exfalso
      have hgd : g d = false := by
        have := List.head?_dropWhile_not g L
        rw [hD] at this
        simpa using this
      have hlt : ((d :: r).reverse.takeWhile g).length ≤ r.length := by
        rw [List.reverse_cons]
        have hle := (List.takeWhile_prefix (p := g) (l := r.reverse ++ [d])).length_le
        rcases Nat.lt_or_ge ((r.reverse ++ [d]).takeWhile g).length (r.length + 1) with q | q
        · omega
        · have pe := (List.takeWhile_prefix (p := g) (l := r.reverse ++ [d])).eq_of_length (by simp at hle ⊢; omega)
          have hm : d ∈ (r.reverse ++ [d]).takeWhile g := by rw [pe]; simp
          rw [tw_mem hm] at hgd
          cases hgd
      rw [hD] at h hl
      rw [List.take_eq_nil_iff] at h
      rcases h with h | h
      · rw [List.length_cons] at hl
        omega
      · cases h
  · intro h
    have : L.dropWhile g = [] := dw_nil h
    rw [this]
    simp
end U
namespace U
open PySem PySem.Spec PyProof.Rows L2

/-! ### xs[k] += n -/
/-! ### zip(list, tuple) -/
def ItzM (K : PySem.W.Frag) (a b : Addr) : It :=
  ⟨fun i H => ∃ xs ys x y, SqL K H a xs ∧ (SqT K H b ys ∧ (xs[i]? = some x ∧ ys[i]? = some y)),
    fun i H v H' => ∃ T x y, v = .ref T ∧ (H T = none ∧ (H' = upd H T (.tup [x, y]) ∧ ((∀ xs, SqL K H a xs → xs[i]? = some x) ∧ ∀ ys, SqT K H b ys → ys[i]? = some y))),
    fun i H => ∃ xs ys, SqL K H a xs ∧ (SqT K H b ys ∧ (i ≤ xs.length ∧ (i ≤ ys.length ∧ (i = xs.length ∨ i = ys.length))))⟩
/-- the five cells of such a zip, and the two that it reads -/
structure ZCells (z TI TO i1 i2 a b : Addr) : Prop where
  n1 : TI ≠ z
  n2 : TO ≠ z
  n3 : TI ≠ TO
  n4 : TI ≠ i1
  n5 : TI ≠ i2
  n6 : z ≠ i1
  n7 : z ≠ i2
  n8 : TO ≠ i1
  n9 : TO ≠ i2
  n10 : i1 ≠ i2
  a1 : a ≠ z
  a2 : a ≠ TO
  a3 : a ≠ i1
  a4 : a ≠ i2
  b1 : b ≠ z
  b2 : b ≠ TO
  b3 : b ≠ i1
  b4 : b ≠ i2
theorem ZCells.sep {z TI TO i1 i2 a b : Addr} (c : ZCells z TI TO i1 i2 a b) : ZipSep2 z TI TO i1 i2 [i1, a] [i2, b] where
  TIz := c.n1
  TOz := c.n2
  TITO := c.n3
  TIi1 := c.n4
  mem1 := List.mem_cons_self
  zf1 := by simp [c.n6, c.a1.symm]
  Tf1 := by simp [c.n8, c.a2.symm]
  TIi2 := c.n5
  mem2 := List.mem_cons_self
  zf2 := by simp [c.n7, c.b1.symm]
  Tf2 := by simp [c.n9, c.b2.symm]
  sep1_2 := by simp [c.n10, c.b3.symm]
  sep2_1 := by simp [c.n10.symm, c.a4.symm]
theorem zcells_new (n a b : Nat) (la : a < n) (lb : b < n) : ZCells (n + 4) (n + 2) (n + 3) n (n + 1) a b := by
  constructor <;> (show ¬ ((_ : Nat) = _)) <;> omega
theorem five {z TI TO i1 i2 q : Addr} (h : q ∈ [z, TI, TO, i1, i2]) : q = z ∨ (q = TI ∨ (q = TO ∨ (q = i1 ∨ q = i2))) := by simpa using h
theorem turn_zipM {P : Program} {w : World} {K : PySem.W.Frag} {el : List Expr} {kk : Nat} {tp : Pos} {a b z TI TO i1 i2 : Addr} (C : ZCells z TI TO i1 i2 a b) :
    Turn P w K (.Tuple el kk tp) (ItzM K a b) [z, TI, TO, i1, i2] z (fun i h => IsZip h z TI TO .none ∧ (IsTupOf2 h TI (.ref i1) (.ref i2) ∧ ((∃ x y, IsTupOf2 h TO x y) ∧ (h.IsListIter i1 a i ∧ h.IsTupleIter i2 b i)))) where
  mem := by simp
  obj := fun i h st c hc => by
    obtain ⟨g1, g2, ⟨u, v, g3⟩, ⟨o1, e1, _, d1⟩, ⟨o2, e2, _, d2⟩⟩ := st
    rcases five hc with q | q | q | q | q <;> rw [q]
    · exact ⟨_, g1, fun v q => nomatch q⟩
    · exact ⟨_, g2, fun v q => nomatch q⟩
    · exact ⟨_, g3, fun v q => nomatch q⟩
    · refine ⟨o1, e1, fun v q => ?_⟩
      rw [d1] at q
      cases q
    · refine ⟨o2, e2, fun v q => ?_⟩
      rw [d2] at q
      cases q
  keep := fun i h h' st k => by
    obtain ⟨g1, g2, ⟨u, v, g3⟩, g4, g5⟩ := st
    exact ⟨k _ (by simp) _ g1, k _ (by simp) _ g2, ⟨u, v, k _ (by simp) _ g3⟩, g4.at fun o y => k _ (by simp) o y, g5.at fun o y => k _ (by simp) o y⟩
  item := by
    intro X hP hw hK hc
    intro i pins s σ H E I hf st hg
    subst hP hw hK
    obtain ⟨g1, g2, ⟨x0, y0, g3⟩, g4, g5⟩ := st
    obtain ⟨xs, ys, x, y, qx, qy, hx, hy⟩ := hg
    obtain ⟨us, r1, p1, _⟩ := I.list qx
    obtain ⟨vs, r2, p2, _⟩ := I.tuple qy
    obtain ⟨u, hu, ru⟩ := r1.get hx
    obtain ⟨v, hv, rv⟩ := r2.get hy
    have zl : z < s.heap.objs.size := Heap.lt_size g1
    have D1 := Draws.list (prog := X.prog) (w := X.w) (A := X.A.in1) (I.ok.hd hc) i1 a C.a3 us.toArray
    have D2 := Draws.tuple (prog := X.prog) (w := X.w) (A := X.A.in1) (I.ok.hd hc) i2 b C.b4 vs.toArray
    have lu : i < us.toArray.size := by simpa using (List.getElem?_eq_some_iff.mp hu).1
    have lv : i < vs.toArray.size := by simpa using (List.getElem?_eq_some_iff.mp hv).1
    refine wpAny_pyNext_zipD2_item C.sep D1 D2 g1 g2 g3 ⟨g4, p1.isList⟩ ⟨g5, p2⟩ lu lv fun x1 x2 h1 tk ex ey z1 t1 s1 s2 hT hsz hk => ?_
    obtain rfl : x1 = u := by
      have ex : us.toArray[i]? = some x1 := ex
      simp [hu] at ex
      exact ex.symm
    obtain rfl : x2 = v := by
      have ey : vs.toArray[i]? = some x2 := ey
      simp [hv] at ey
      exact ey.symm
    refine ⟨_, rfl, wpAny_letOwnedTupleGo_zip (s := { s with heap := h1, toks := tk }) z1 fun h2 z2 sb => ?_⟩
    have T2 : h2.get? s.heap.objs.size = some { cls := .type "tuple", data := .seq #[x1, x2] } := (sb.2 _ (Nat.ne_of_gt zl)).trans hT
    have new : ObjOk X.prog X.w (upd H s.heap.objs.size (.tup [x, y])) h2 s.heap.objs.size (.tup [x, y]) := ⟨by show 2 ≤ sizeLine; decide, [x1, x2], .cons ru (.cons rv .nil), ⟨_, T2, rfl, _, rfl⟩⟩
    have k2 : ∀ c o, c ≠ z → c ≠ TO → c ≠ i1 → c ≠ i2 → s.heap.get? c = some o → h2.get? c = some o := fun c o c1 c2 c3 c4 e => (sb.2 c c1).trans (hk c o c1 c2 c3 c4 e)
    have I1 : Inv X pins σ (upd H s.heap.objs.size (.tup [x, y])) { s with heap := h2, toks := tk } :=
      I.turnedNew (ch := [z, TI, TO, i1, i2]) (fun c o hb => k2 c o (fun e => hb (by simp [e])) (fun e => hb (by simp [e])) (fun e => hb (by simp [e])) fun e => hb (by simp [e])) hf (Nat.le_refl _) new
    refine ⟨.ref s.heap.objs.size, _, I1, rfl, ⟨_, x, y, rfl, I.hok.fresh (Nat.le_refl _), rfl, fun l hl => ?_, fun l hl => ?_⟩, ⟨z2, k2 _ _ C.n1 C.n3 C.n4 C.n5 g2, ⟨x1, x2, (sb.2 _ C.n2).trans t1⟩, ?_, ?_⟩, fun c hcm => ?_⟩
    · rw [I.list_inj hl qx]
      exact hx
    · rw [I.tuple_inj hl qy]
      exact hy
    · exact s1.1.at fun o q => (sb.2 _ C.n6.symm).trans q
    · exact s2.1.at fun o q => (sb.2 _ C.n7.symm).trans q
    · have below : c < s.heap.objs.size := by
        rcases five hcm with q | q | q | q | q
        · exact q ▸ zl
        · exact q ▸ Heap.lt_size g2
        · exact q ▸ Heap.lt_size g3
        · obtain ⟨_, e, _⟩ := g4
          exact q ▸ Heap.lt_size e
        · obtain ⟨_, e, _⟩ := g5
          exact q ▸ Heap.lt_size e
      rw [upd_ne (Nat.ne_of_lt below)]
      exact (hf c hcm).1
  done := by
    intro X hP hw hK hc
    intro i pins s σ H E I hf st hg
    subst hP hw hK
    obtain ⟨g1, g2, ⟨x0, y0, g3⟩, g4, g5⟩ := st
    obtain ⟨xs, ys, qx, qy, l1, l2, l3⟩ := hg
    obtain ⟨us, r1, p1, _⟩ := I.list qx
    obtain ⟨vs, r2, p2, _⟩ := I.tuple qy
    have e1 := r1.length
    have e2 := r2.length
    have D1 := Draws.list (prog := X.prog) (w := X.w) (A := X.A.in1) (I.ok.hd hc) i1 a C.a3 us.toArray
    have D2 := Draws.tuple (prog := X.prog) (w := X.w) (A := X.A.in1) (I.ok.hd hc) i2 b C.b4 vs.toArray
    refine wpAny_pyNext_zipD2_end C.sep D1 D2 g1 g2 g3 ⟨g4, p1.isList⟩ ⟨g5, p2⟩ (by simp; omega) (by simp; omega) (by simp; omega) fun h1 tk hk => ⟨rfl, I.turnedL (ch := [z, TI, TO, i1, i2]) (fun c o hb => hk c o (fun e => hb (by simp [e])) (fun e => hb (by simp [e])) (fun e => hb (by simp [e])) fun e => hb (by simp [e])) hf⟩
  self := fun _ _ _ _ _ st h => wpAny_pyIter_zip st.1 h
def iZipM (K : PySem.W.Frag) (ta : TA) : TI := fun σ H R => ta σ H fun vs H1 => ∃ a b xs ys, vs = [.ref a, .ref b] ∧ (SqL K H1 a xs ∧ (SqT K H1 b ys ∧ R (ItzM K a b) H1))
theorem pi_zipM {X : Cx} {f1 f2 : Expr} {ta : TA} {p pos tpos : Pos} {elts : List Expr} {kk : Nat} (hg : Gl X "zip") (hm : X.mg "zip" = none) (ha : PA X [f1, f2] ta)
    (hs : starEach [f1, f2] X.env = (false, eval f1 X.env) :: starEach [f2] X.env := by rfl) (hpl : (backTo pos (starEach [f2] X.env)).any (·.1) = false := by rfl) :
    PI X (.Tuple elts kk tpos) (.Call (.Name "zip" p) [f1, f2] [] pos) (iZipM X.K ta) := by
  refine .mk ?_
  intro pins s σ H R I h
  refine Call_ (ld_blt I hg hm boot_zip (PyProof.Rows.callWith_type1 (thn (ha.run pos pins s σ H _ I h) fun us s1 q0 => ?_) hs hpl))
  obtain ⟨vs, H1, I1, r1, a, b, xs, ys, ex, qx, qy, q⟩ := q0
  subst ex
  obtain ⟨v1, v2, rfl, rfl, rfl⟩ : ∃ v1 v2, us = [v1, v2] ∧ v1 = .ref a ∧ v2 = .ref b := by
    cases r1 with
    | cons r r2 =>
      cases r2 with
      | cons r' r3 =>
        cases r3
        cases r
        cases r'
        exact ⟨_, _, rfl, rfl, rfl⟩
  obtain ⟨xv, rv, p1, _⟩ := I1.list qx
  obtain ⟨yv, rw', p2, _⟩ := I1.tuple qy
  have lta : a < s1.heap.objs.size := p1.lt
  have lb : b < s1.heap.objs.size := by
    obtain ⟨o, ho, _⟩ := id p2
    exact Heap.lt_size ho
  refine zip_begins2 (begins_list a xv.toArray) (begins_tuple b yv.toArray) p1.isList p2 fun h1 hz hTI hTO g1 g2 hsz hk => wpAny_pyIter_zip hz ?_
  have I2 : Inv X pins σ H1 { s1 with heap := h1 } := I1.kept (t' := s1.toks) hk
  have C : ZCells (s1.heap.objs.size + 4) (s1.heap.objs.size + 2) (s1.heap.objs.size + 3) s1.heap.objs.size (s1.heap.objs.size + 1) a b := zcells_new s1.heap.objs.size a b lta lb
  refine ⟨s1.heap.objs.size + 4, [s1.heap.objs.size + 4, s1.heap.objs.size + 2, s1.heap.objs.size + 3, s1.heap.objs.size, s1.heap.objs.size + 1], _, _, H1, rfl, I2, turn_zipM C, ⟨hz, hTI, ⟨_, _, hTO⟩, ⟨_, g1, rfl, rfl⟩, ⟨_, g2, rfl, rfl⟩⟩, fun c hcm => ?_, q⟩
  have above : s1.heap.objs.size ≤ c := by
    rcases five hcm with e | e | e | e | e <;> rw [e]
    · exact Nat.le_add_right _ 4
    · exact Nat.le_add_right _ 2
    · exact Nat.le_add_right _ 3
    · exact Nat.le_refl _
    · exact Nat.le_add_right _ 1
  exact I1.fpOk above (I1.hok.fresh above)
/-- zip of a list and a list or a tuple -/
def iZipU (K : PySem.W.Frag) (ta : TA) : TI := fun σ H R => iZip K ta σ H R ∨ iZipM K ta σ H R
theorem pi_zipU {X : Cx} {f1 f2 : Expr} {ta : TA} {p pos tpos : Pos} {elts : List Expr} {kk : Nat} (hg : Gl X "zip") (hm : X.mg "zip" = none) (ha : PA X [f1, f2] ta)
    (hs : starEach [f1, f2] X.env = (false, eval f1 X.env) :: starEach [f2] X.env := by rfl) (hpl : (backTo pos (starEach [f2] X.env)).any (·.1) = false := by rfl) :
    PI X (.Tuple elts kk tpos) (.Call (.Name "zip" p) [f1, f2] [] pos) (iZipU X.K ta) := by
  refine .mk ?_
  intro pins s σ H R I h
  rcases h with h | h
  · exact (pi_zip hg hm ha hs hpl).run pins s σ H R I h
  · exact (pi_zipM hg hm ha hs hpl).run pins s σ H R I h
/-- what yields pairs -/
structure Zipped (J : It) (xs ys : List V) (G : Hp → Prop) : Prop where
  go : ∀ i H, G H → i < xs.length → i < ys.length → J.go i H
  yld : ∀ i H v H', G H → J.yld i H v H' → ∃ T x y, v = .ref T ∧ H T = none ∧ H' = upd H T (.tup [x, y]) ∧ xs[i]? = some x ∧ ys[i]? = some y
  stop : ∀ i H, G H → i ≤ xs.length → i ≤ ys.length → (i = xs.length ∨ i = ys.length) → J.stop i H
theorem zipped_LL {K : PySem.W.Frag} {a b : Addr} {xs ys : List V} : Zipped (Itz K a b) xs ys fun H => SqL K H a xs ∧ SqL K H b ys where
  go := fun i H g l1 l2 => ⟨xs, ys, xs[i], ys[i], g.1, g.2, List.getElem?_eq_getElem l1, List.getElem?_eq_getElem l2⟩
  yld := fun i H v H' g ⟨T, x, y, h1, h2, h3, h4, h5⟩ => ⟨T, x, y, h1, h2, h3, h4 xs g.1, h5 ys g.2⟩
  stop := fun i H g l1 l2 e => ⟨xs, ys, g.1, g.2, by omega⟩
/-- a comprehension over such pairs -/
theorem lc_zip {J : It} {xs ys : List V} {G : Hp → Prop} (Z : Zipped J xs ys G) {g : TG} {tt : TT} {te : TE} {vs : List Nat} {σ : L2.St} {H1 : Hp} {D : Addr} {Qd : Hp → Prop} (Pv : Nat → Hp → Prop) (h0 : Pv 0 (upd H1 D (.lst []))) (hG : ∀ i H, Pv i H → G H)
    (hs : ∀ i x y T H, xs[i]? = some x → ys[i]? = some y → Pv i H → H T = none → lcT g tt te vs σ D (Pv (i + 1)) (.ref T) (upd H T (.tup [x, y]))) (hd : ∀ H, Pv (min xs.length ys.length) H → Qd H) : LcB J g tt te vs σ H1 D Qd := by
  refine ⟨fun i m H => m = min xs.length ys.length - i ∧ i ≤ min xs.length ys.length ∧ Pv i H, ⟨_, rfl, Nat.zero_le _, h0⟩, ?_⟩
  rintro i m H ⟨rfl, hi, p⟩
  by_cases lt : i < min xs.length ys.length
  · refine .inr ⟨Z.go i H (hG i H p) (by omega) (by omega), Pv (i + 1), fun H' p' => ⟨min xs.length ys.length - (i + 1), by omega, rfl, lt, p'⟩, fun v H' yd => ?_⟩
    obtain ⟨T, x, y, rfl, hT, rfl, e1, e2⟩ := Z.yld i H v H' (hG i H p) yd
    exact hs i x y T H e1 e2 p hT
  · have e : i = min xs.length ys.length := by omega
    subst e
    exact .inl ⟨Z.stop _ H (hG _ H p) (by omega) (by omega) (by omega), hd H p⟩
end U
namespace U
open PySem PySem.Spec PyProof.Rows L2

/-! ### y = {k: v for ..} -/
section
variable {X : Cx}
end
end U
namespace U
open PySem PySem.Spec PyProof.Rows L2

/-! ### sorted(d.values()), fewer than 64 integers -/
end U
namespace U
open PySem PySem.Spec PyProof.Rows L2

/-! ### len(set(text)) -/
section
variable {P : Program} {w : World} {A : Around} {E : Value → Shared → Prop} {z : Str}
local macro_rules | `(tactic| walk_at "g") => `(tactic| repeat (any_goals (first | assumption | wp_step)))
end
section
variable {X : Cx} {p p2 q pos : Pos} {a : Expr} {ta : TE}
end
end U
namespace U
open PySem PySem.Spec PyProof.Rows L2

/-! ### len(set(texts)), no text twice -/
section
variable {P : Program} {w : World} {A : Around} {E : Value → Shared → Prop} {xs : List Str} {items : Array Value}
local macro_rules | `(tactic| walk_at "g") => `(tactic| repeat (any_goals (first | assumption | wp_step)))
end
section
variable {X : Cx} {p p2 q pos : Pos} {a : Expr} {ta : TE}
end
end U
namespace U
open PySem PySem.Spec PyProof.Rows L2

/-! ### except (A, B, ..): which exceptions such a clause takes -/
section
variable {M : Model} {A : Around} {s : Shared} {E : Value → Shared → Prop}
theorem loop_all {f : Value → PUnit → Sem (ForInStep PUnit)} (cs : List Value) (each : ∀ c ∈ cs, ∀ P : ForInStep PUnit → Shared → Prop, P (.yield PUnit.unit) s → wpAny M A (f c PUnit.unit) P E s) {Q : PUnit → Shared → Prop} (q : Q PUnit.unit s) :
    wpAny M A (forIn cs PUnit.unit f) Q E s := by
  induction cs with
  | nil => rw [List.forIn_nil]; exact wpAny_pure q
  | cons c r ih =>
    rw [List.forIn_cons]
    exact wpAny_bind (each c List.mem_cons_self _ (ih fun d hd => each d (List.mem_cons_of_mem _ hd)))
theorem loop_any {β : Type} {g : Value → β → Sem (ForInStep β)} {i d : β} (p : Value → Bool) (cs : List Value) (each : ∀ c ∈ cs, ∀ P : ForInStep β → Shared → Prop, P (if p c = true then .done d else .yield i) s → wpAny M A (g c i) P E s)
    {Q : β → Shared → Prop} (q : Q (if cs.any p = true then d else i) s) : wpAny M A (forIn cs i g) Q E s := by
  induction cs with
  | nil => rw [List.forIn_nil]; exact wpAny_pure q
  | cons c r ih =>
    rw [List.forIn_cons]
    refine wpAny_bind (each c List.mem_cons_self _ ?_)
    rw [List.any_cons] at q
    cases e : p c with
    | true =>
      rw [e] at q
      exact wpAny_pure q
    | false =>
      rw [e] at q
      exact ih (fun x hx => each x (List.mem_cons_of_mem _ hx)) q
end
theorem exmAny_any {K : PySem.W.Frag} {cls : Value} : ∀ {cs : List Value} {b : Bool}, PySem.W.exmAny K cls cs = some b → (∀ c ∈ cs, PySem.W.exmOne K cls c = some (decide (PySem.W.exmOne K cls c = some true))) ∧ b = cs.any fun c => decide (PySem.W.exmOne K cls c = some true)
  | [], b, h => ⟨fun c m => (nomatch m), (Option.some.inj h).symm⟩
  | c :: r, b, h => by
    obtain ⟨b1, d1, h1, h2, rfl⟩ := PySem.W.exmAny_cons h
    obtain ⟨a1, a2⟩ := exmAny_any h2
    have e : PySem.W.exmOne K cls c = some (decide (PySem.W.exmOne K cls c = some true)) := by
      rw [h1]
      cases b1 <;> rfl
    refine ⟨fun x m => ?_, ?_⟩
    · rcases List.mem_cons.mp m with rfl | m
      · exact e
      · exact a1 x m
    · rw [List.any_cons, ← a2]
      have := h1.symm.trans e
      rw [Option.some.inj this]
theorem exm_list {M : Model} {K : PySem.W.Frag} {cls : Value} {cs : List Value} {tp e : Addr} {b : Bool} {h : Heap} (X : K.In h) (of : PySem.W.Looks M h (typeOf (.ref e)) cls) (hp : h.get? tp = some { cls := .type "tuple", data := .seq cs.toArray })
    (hx : PySem.W.exmAny K cls cs = some b) : PySem.W.Looks M h (excMatches (.ref e) (.ref tp)) b := by
  intro A Q E s kept q
  obtain ⟨each, rfl⟩ := exmAny_any hx
  have isTup : PySem.W.Looks M h (isInstance (.ref tp) (.type "tuple")) true := ((PySem.W.Looks.ld hp).andThen .now).andThen (PySem.W.Looks.of_pure isSubtype_tuple_tuple)
  rcases s with ⟨hh, g, d, tk, os⟩
  have k : ∀ b o, h.get? b = some o → hh.get? b = some o := kept
  have at_ := k _ _ hp
  have one := fun c m => PySem.W.exm_cls (M := M) X (each c m)
  unfold excMatches
  refine wpAny_bind ((isTup.keeps k).at ?_)
  dsimp only
  rw [if_pos rfl]
  refine wpAny_bind (wpAny_seqItems at_ rfl ?_)
  dsimp only [Option.getD, Option.getD_some]
  refine wpAny_bind (wpAny_pure (wpAny_bind (loop_all cs (fun c m P hP => ?_) ?_)))
  · refine wpAny_bind (((one c m).1.keeps k).at ?_)
    exact wpAny_pure hP
  · refine wpAny_bind ((of.keeps k).at ?_)
    refine wpAny_bind (loop_any (fun c => decide (PySem.W.exmOne K cls c = some true)) cs (d := ⟨some true, PUnit.unit⟩) (fun c m P hP => ?_) ?_)
    · refine wpAny_bind (((one c m).2.keeps k).at ?_)
      cases z : decide (PySem.W.exmOne K cls c = some true) with
      | true =>
        rw [z] at hP
        exact wpAny_pure hP
      | false =>
        rw [z] at hP
        exact wpAny_pure hP
    · cases z : cs.any fun c => decide (PySem.W.exmOne K cls c = some true) with
      | true =>
        rw [z] at q
        exact wpAny_pure q
      | false =>
        rw [z] at q
        exact wpAny_pure q
end U
namespace U
open PySem PySem.Spec PyProof.Rows L2

/-! ### try: several clauses, each with or without a name, of one class or of several -/
theorem flying_keep {B h h' : Heap} {l : List Env} {a : Addr} {Z : Obj → Prop} (k : ∀ b o, h.get? b = some o → h'.get? b = some o) (x : HandSPX.FlyingZ B l a Z h) : HandSPX.FlyingZ B l a Z h' := by
  obtain ⟨x1, x2, x3, oe, vs, T, oT, ts, y1, y2, y3, y4, y5, y6, y7, y8⟩ := x
  exact ⟨fun b o e => k _ _ (x1 b o e), x2, x3.of_keeps fun b o e _ => ⟨o, k _ _ e, rfl⟩, oe, vs, T, oT, ts, k _ _ y1, y2, y3, y4, y5, y6, k _ _ y7, y8⟩
/-- the expression of a clause: which classes it takes -/
def TeX (X : Cx) (e : Expr) (m : Value → Option Bool) : Prop := ∀ {a : Addr} {oe : Obj} {cls : Value} {b : Bool} {pn pins : List (Addr × Obj)} {σ : L2.St} {H : Hp} {s : Shared} {Q : Bool → Shared → Prop} {E : Value → Shared → Prop},
  Inv (X.suite a ((a, oe) :: pn)) pins σ H s → s.heap.get? a = some oe → oe.cls = cls → m cls = some b → (∀ h', (∀ c o, s.heap.get? c = some o → h'.get? c = some o) → Q b { s with heap := h' }) →
  wpAny (model X.prog X.w) (X.A.mark (some (.ref a))) (eval e X.env) (fun c s1 => wpAny (model X.prog X.w) (X.A.mark (some (.ref a))) (excMatches (.ref a) c) Q E s1) E s
section
variable {X : Cx}
theorem look_name {a : Addr} {pn pins : List (Addr × Obj)} {σ : L2.St} {H : Hp} {s : Shared} {x : Str} {c : Value} {np : Pos} (hc : Names X x c) (S : Inv (X.suite a pn) pins σ H s) {Q : Value → Shared → Prop} {E : Value → Shared → Prop} (q : Q c s) :
    wpAny (model X.prog X.w) (X.A.mark (some (.ref a))) (eval (.Name x np) X.env) Q E s := by
  obtain ⟨g, nd, m | ⟨m, v, nn⟩⟩ := hc
  · exact ld_glob S g m q nd
  · exact ld_blt S g m v q nn nd
theorem type_looks {M : Model} {h : Heap} {a : Addr} {oe : Obj} (he : h.get? a = some oe) : PySem.W.Looks M h (typeOf (.ref a)) oe.cls := fun A Q E s k q => wpAny_typeOf_ref (k _ _ he) q
theorem te_name {x : Str} {c : Value} {np : Pos} (hc : Names X x c) : TeX X (.Name x np) fun cls => PySem.W.exmOne X.K cls c := by
  intro a oe cls b pn pins σ H s Q E S he ec hm q
  subst ec
  exact look_name hc S ((PySem.W.exm_one S.kIn (type_looks he) hm).here (q s.heap fun _ _ z => z))
inductive NamesL (X : Cx) : List (Str × Pos) → List Value → Prop
  | nil : NamesL X [] []
  | cons {x : Str × Pos} {c : Value} {xs : List (Str × Pos)} {cs : List Value} (h : Names X x.1 c) (r : NamesL X xs cs) : NamesL X (x :: xs) (c :: cs)
theorem te_names {a : Addr} {pn pins : List (Addr × Obj)} {σ : L2.St} {H : Hp} {s : Shared} (S : Inv (X.suite a pn) pins σ H s) {pos : Pos} : ∀ {xs : List (Str × Pos)} {cs : List Value} {Q : List Value → Shared → Prop} {E : Value → Shared → Prop}, NamesL X xs cs → Q cs s →
    wpAny (model X.prog X.w) (X.A.mark (some (.ref a))) (spliced (backTo pos (starEach (xs.map fun x => Expr.Name x.1 x.2) X.env))) Q E s
  | [], _, Q, E, .nil, q => args_nil q
  | x :: xs, c :: cs, Q, E, .cons h r, q => args_cons (look_name h S (te_names S r q))
theorem te_tup {xs : List (Str × Pos)} {cs : List Value} {k : Nat} {tp : Pos} (hc : NamesL X xs cs) (few : cs.length ≤ 1000) : TeX X (.Tuple (xs.map fun x => Expr.Name x.1 x.2) k tp) fun cls => PySem.W.exmAny X.K cls cs := by
  intro a oe cls b pn pins σ H s Q E S he ec hm q
  subst ec
  refine wpAny_Tuple_spliced (te_names S hc ⟨Nat.le_trans few (by decide), ?_⟩)
  have old : ∀ c o, s.heap.get? c = some o → (s.heap.push { cls := .type "tuple", data := .seq cs.toArray }).get? c = some o := fun c o z => Heap.get?_push_of_some _ z
  exact (exm_list (S.kept (t' := s.toks) old).kIn (type_looks (old _ _ he)) (Heap.get?_push_size _ rfl) hm).here (q _ old)
end
/-- a clause: what it takes, its name's slot, its suite -/
structure Clz where
  m : Value → Option Bool
  nm : Option Nat
  ts : Addr → Value → Option Addr → TS
def named (i : Option Nat) (a : Addr) (σ : L2.St) : L2.St := match i with
  | none => σ
  | some i => σ.set i (some (.ref a))
def unnamed (i : Option Nat) (σ : L2.St) : L2.St := match i with
  | none => σ
  | some i => σ.set i none
def undone (i : Option Nat) (D : Ends) : Ends := { nx := fun σ H => D.nx (unnamed i σ) H, rt := D.rt, bk := fun σ H => D.bk (unnamed i σ) H, ct := fun σ H => D.ct (unnamed i σ) H }
/-- what is asked of an exception by the clauses in turn -/
def wCl (Wout : WX) (D : Ends) : List Clz → WX
  | [] => Wout
  | c :: r => fun cls d σ H => ∃ b, c.m cls = some b ∧ (b = true → ∀ a, H a = none → c.ts a cls d (undone c.nm D) (named c.nm a σ) H) ∧ (b = false → wCl Wout D r cls d σ H)
def NmOk (X : Cx) : Option Str → Option Nat → Prop
  | none, none => True
  | some n, some i => X.N[i]? = some n ∧ X.env.kindOf n = some .local
  | _, _ => False
inductive ClsOk (X : Cx) : List ExceptHandler → List Clz → Prop
  | nil : ClsOk X [] []
  | cons {e : Expr} {m : Value → Option Bool} {name : Option Str} {nm : Option Nat} {ts : Addr → Value → Option Addr → TS} {b0 : Stmt} {suite : List Stmt} {pos' : Pos} {hds : List ExceptHandler} {l : List Clz} (te : TeX X e m) (hn : NmOk X name nm)
      (su : ∀ (a : Addr) (oe : Obj) (cls : Value) (d : Option Addr) (pn : List (Addr × Obj)), Zc cls d oe → (∃ vs, oe.data = .fields vs) → PSs (X.suite a ((a, oe) :: pn)) (b0 :: suite) (ts a cls d)) (r : ClsOk X hds l) :
      ClsOk X (.ExceptHandler (some e) name (b0 :: suite) pos' :: hds) (⟨m, nm, ts⟩ :: l)
section
variable {X : Cx} {body : List Stmt} {h0 : ExceptHandler} {hds : List ExceptHandler} {l : List Clz} {pos : Pos} {tb : WX → TS} {Wout : WX}
/-- the state behind a suite, seen from around it -/
theorem sp_back {pins : List (Addr × Obj)} {a : Addr} {q : Addr × Obj} {D D' : Ends} {f : Flow} {s : Shared} (ok : X.Ok) (h : SP (X.suite a (q :: (X.pn ++ pins))) [] D' f s)
    (e : ∀ σ H s', Inv X pins σ H s' → s' = s → (D'.nx σ H → D.nx σ H) ∧ (D'.bk σ H → D.bk σ H) ∧ (D'.ct σ H → D.ct σ H)) (er : D'.rt = D.rt) : SP X pins D f s := by
  cases f with
  | next =>
    obtain ⟨σ', H', S, z⟩ := h
    exact ⟨σ', H', S.unsuite ok, (e σ' H' s (S.unsuite ok) rfl).1 z⟩
  | brk =>
    obtain ⟨σ', H', S, z⟩ := h
    exact ⟨σ', H', S.unsuite ok, (e σ' H' s (S.unsuite ok) rfl).2.1 z⟩
  | cont =>
    obtain ⟨σ', H', S, z⟩ := h
    exact ⟨σ', H', S.unsuite ok, (e σ' H' s (S.unsuite ok) rfl).2.2 z⟩
  | ret u =>
    obtain ⟨v, σ', H', S, r, z⟩ := h
    exact ⟨v, σ', H', S.unsuite ok, r, er ▸ z⟩
theorem ps_try_cl (hs : X.stack = X.env :: X.outer) (hf : X.env.frame = some X.env.locals) (hN : X.N.Nodup) (tk : Takes X Wout)
    (hb : ∀ (W : WX) (pn : List (Addr × Obj)) (xe : Value → Shared → Prop), Takes (X.tr pn xe) W → PassesOwn (model X.prog X.w) X.A X.env xe → PSs (X.tr pn xe) body (tb W))
    (hh : ClsOk X (h0 :: hds) l) : PS X (.Try body (h0 :: hds) [] [] pos) (fun D σ H => tb (wCl Wout D l) D σ H) := by
  refine .mk ?_
  intro pins s σ H D I h
  have ok := I.ok
  have frames : X.A.frames = some (X.env :: X.outer) := by rw [ok.frames, hs]
  refine wpAny_Try_except (wpAny_mono ((hb (wCl Wout D l) (X.pn ++ pins) (fun e s1 => wpAny (model X.prog X.w) X.A (noteFrame e X.env) (fun _ s2 => wpAny (model X.prog X.w) X.A (setFlight e none) (fun _ s3 =>
    wpAny (model X.prog X.w) X.A (handleBy e X.env (h0 :: hds)) (SP X pins D) X.xe s3) X.xe s2) X.xe s1) (fun u s' thrown => ?_) PassesOwn.looking).run [] s σ H D (I.toTry _) h) (fun f s1 out => ?_) fun e s1 z => z)
  · obtain ⟨a, B, sI, pins', σ', H', cls, d, rfl, J0, nb, up, sky0, na, os, ag, wish⟩ := thrown
    have J : Inv X pins σ' H' sI := J0.ofTry ok
    have sky : Sky B (X.env :: X.outer) a (Zc cls d) X.env.locals s'.heap := hs ▸ sky0
    change wpAny (model X.prog X.w) X.A (noteFrame (.ref a) X.env) _ _ _
    refine sky.land Zc.steady frames hf fun h3 fl3 up3 => ?_
    -- the clauses, from any heap in which it flies
    have go : ∀ {hds' : List ExceptHandler} {l' : List Clz}, ClsOk X hds' l' → wCl Wout D l' cls d σ' H' → ∀ hx, HandSPX.FlyingZ B (X.env :: X.outer) a (Zc cls d) hx → s'.heap.UpToSlots hx →
        wpAny (model X.prog X.w) X.A (handleBy (.ref a) X.env hds') (SP X pins D) X.xe { s' with heap := hx } := by
      intro hds' l' hk
      induction hk with
      | nil =>
        intro w hx fl upx
        obtain ⟨_, _, _, oe, vs, T, oT, ts', he, hz, hd, h1, _⟩ := id fl
        refine wpAny_handleBy_nil (by
          unfold PySem.passOn
          refine (wpAny_bind (wpAny_field he hd h1 ?_))
          rw [if_neg (show ¬ ((Value.ref T == Value.none) = true) by simp)]
          have out : wpAny (model X.prog X.w) X.A (setFlight (.ref a) X.env.frame) (fun _ s4 => wpAny (model X.prog X.w) X.A (throw (.ref a) : Sem Flow) (SP X pins D) X.xe s4) X.xe { s' with heap := hx } := by
            rw [hf]
            refine HandSPX.setFlight_upZ fl fun h4 held up4 => wpAny_throw (tk _ _ ⟨a, B, sI, pins, σ', H', cls, d, rfl, J, nb, (up.trans upx).trans up4, .inr (.inr (by rw [hs]; exact held)), na, os, ag, w⟩)
          first
            | exact wpAny_bind (wpAny_pure (wpAny_bind out))
            | exact wpAny_bind out)
      | @cons e m name nm ts b0 suite pos' hds2 l2 te hn su r ih =>
        intro w hx fl upx
        obtain ⟨b, hm, yes, no⟩ := w
        rcases fl.there with ⟨oe, vs, he, hz, hd⟩
        have Jx : Inv X pins σ' H' { s' with heap := hx } := J.landed nb fl.1 (up.trans upx) os ag
        have off : ∀ {hy : Heap} {oy : Obj} {vy : Array Value}, hy.FunFrames B (X.env :: X.outer) → hy.get? a = some oy → oy.data = .fields vy → a ≠ X.env.locals ∧ a ∉ X.fs := fun {hy oy vy} ff ey dy => by
          have nfr : a ∉ frs (X.env :: X.outer) := fun hm => by
            rcases ff.mem hm with ⟨_, o', e', hnf⟩
            rw [ey] at e'
            cases e'
            exact hnf _ dy
          refine ⟨fun z => nfr (List.mem_filterMap.mpr ⟨X.env, List.mem_cons_self, by rw [hf, z]⟩), fun hm => ?_⟩
          obtain ⟨e1, h1, q1⟩ := List.mem_filterMap.mp hm
          exact nfr (List.mem_filterMap.mpr ⟨e1, List.mem_cons_of_mem _ h1, q1⟩)
        obtain ⟨nL, nF⟩ := off fl.2.2.1 he hd
        refine wpAny_handleBy_cons (codeAny_handlers_test (te (Jx.suite he hd na nL nF) he hz.1 hm fun h4 kept => ?_)) (fun z => nomatch z)
        have fl4 := flying_keep kept fl
        have up4 : s'.heap.UpToSlots h4 := upx.trans (Heap.UpToSlots.of_keeps kept)
        cases b with
        | false => exact ih (no rfl) h4 fl4 up4
        | true =>
          have land : ∀ h5, HandSPX.FlyingZ B (X.env :: X.outer) a (Zc cls d) h5 → h4.UpToSlots h5 → ∃ oe5, Zc cls d oe5 ∧ (∃ vs, oe5.data = .fields vs) ∧ Inv (X.suite a ((a, oe5) :: (X.pn ++ pins))) [] σ' H' { s' with heap := h5 } := fun h5 fl5 up5 => by
            obtain ⟨oe5, vs5, he5, hz5, hd5⟩ := fl5.there
            obtain ⟨nL5, nF5⟩ := off fl5.2.2.1 he5 hd5
            have J5 : Inv X pins σ' H' { s' with heap := h5 } := J.landed (s' := { s' with heap := h5 }) nb fl5.1 (up.trans (up4.trans up5)) os ag
            exact ⟨oe5, hz5, ⟨_, hd5⟩, J5.suite he5 hd5 na nL5 nF5⟩
          match name, nm, hn with
          | none, none, _ =>
            refine codeAny_handlers_suite (HandSPX.lands_againZ fl4 fun h5 fl5 up5 => ?_)
            obtain ⟨oe5, hz5, hd5, S5⟩ := land h5 fl5 up5
            exact wpAny_mono ((su a oe5 cls d (X.pn ++ pins) hz5 hd5).run [] _ _ H' _ S5 (yes rfl a na)) (fun f s6 out => sp_back ok out (fun _ _ _ _ _ => ⟨id, id, id⟩) rfl) fun _ _ z => z.elim
          | some n, some i, ⟨hi, hln⟩ =>
            refine codeAny_handlers_suite_as (HandSPX.lands_againZ fl4 fun h5 fl5 up5 => ?_)
            obtain ⟨oe5, hz5, hd5, S5⟩ := land h5 fl5 up5
            refine store_ok (X := X.suite a ((a, oe5) :: (X.pn ++ pins))) (v := .ref a) S5 hN hi (.inl hln) rfl (fun s6 S6 => ?_) (.inr hln)
            refine wpAny_mono ((su a oe5 cls d (X.pn ++ pins) hz5 hd5).run [] s6 _ H' _ S6 (yes rfl a na)) (fun f s7 out => ?_) fun _ _ z => z.elim
            have ends : ∀ {σ7 : L2.St} {H7 : Hp} {Q : Shared → Prop}, Inv (X.suite a ((a, oe5) :: (X.pn ++ pins))) [] σ7 H7 s7 → (∀ s8, Inv X pins (σ7.set i none) H7 s8 → Q s8) →
                wpAny (model X.prog X.w) X.A (do bindName X.env n .none; unbindBehindTheSuite X.env n pos') (fun _ s8 => Q s8) X.xe s7 := fun S7 q => gone_ok (S7.unsuite ok) hN hi hln q
            cases f with
            | next => obtain ⟨σ7, H7, S7, q7⟩ := out; exact ends S7 fun s8 J8 => ⟨_, _, J8, q7⟩
            | brk => obtain ⟨σ7, H7, S7, q7⟩ := out; exact ends S7 fun s8 J8 => ⟨_, _, J8, q7⟩
            | cont => obtain ⟨σ7, H7, S7, q7⟩ := out; exact ends S7 fun s8 J8 => ⟨_, _, J8, q7⟩
            | ret u => obtain ⟨v7, σ7, H7, S7, r7, q7⟩ := out; exact ends S7 fun s8 J8 => ⟨_, _, _, J8, r7, q7⟩
    exact go hh wish h3 fl3 up3
  · cases f with
    | next => obtain ⟨σ', H', J, q⟩ := out; exact wpAny_execs_nil ⟨σ', H', J.ofTry ok, q⟩
    | brk => obtain ⟨σ', H', J, q⟩ := out; exact ⟨σ', H', J.ofTry ok, q⟩
    | cont => obtain ⟨σ', H', J, q⟩ := out; exact ⟨σ', H', J.ofTry ok, q⟩
    | ret u => obtain ⟨v, σ', H', J, r, q⟩ := out; exact ⟨v, σ', H', J.ofTry ok, r, q⟩
end
end U
namespace U
open PySem PySem.Spec PySem.Calls PyProof.Rows L2

/-! ### isinstance and fields of a caught exception of one's own, whatever its dict -/
section
variable {P : Program} {w : World} {A : Around} {E : Value → Shared → Prop} {s : Shared} {K : PySem.W.Frag} {x D : Addr} {ox : Obj} {od : Option Obj}
theorem found_data {name : Str} {a g : Value} (hc : (PySem.W.clsIn K D).isSome = true) (ha : PySem.W.findIn K (.ref D) name = some (some a)) (hg : PySem.W.specialIn K a "__get__" = some (some g)) (ht : PySem.W.takesIn K a = some true) : PySem.W.findObj K D od name = some (.bind g a) := by
  rcases Option.isSome_iff_exists.mp hc with ⟨cd, hc⟩
  simp [PySem.W.findObj, hc, ha, hg, ht]
/-- its __class__ -/
theorem class_asked (C : ExcC K D) {Q : Option Value → Shared → Prop} (X : K.In s.heap) (I : PySem.W.InstAt s.heap x ox D od) (h : Q (some (.ref D)) { s with toks := s.toks + 1 }) : wpAny (model P w) A (getAttr? (.ref x) "__class__") Q E s := by
  have is : (PySem.W.clsIn K D).isSome = true := by
    obtain ⟨cd, hc, _⟩ := PySem.W.any_some C.hd
    rw [hc]
    rfl
  have f0 := found_data (od := od) is C.ha C.hn C.ht
  obtain ⟨hp, g, d, t, os⟩ := s
  have l0 := I.type (M := model P w)
  have l1 := PySem.W.looks_findIn (M := model P w) X C.hg
  have l2 := PySem.W.looks_findIn (M := model P w) X C.hk
  have l3 := PySem.W.looks_find (M := model P w) X I f0
  have base : PySem.W.Looks (model P w) hp (isInstance (.ref x) (.type "BaseException")) true := l0.andThen (PySem.W.looks_subIn X C.hs)
  have n2 : (Value.builtin "BaseException.__getattribute__" == Value.builtin "object.__getattribute__") = false := by decide +kernel
  have n1 : (onTheHeap (Value.ref D) && Value.builtin "BaseException.__getattribute__" == Value.builtin "object.__getattribute__") = false := by rw [n2]; rfl
  unfold getAttr?; unfold getAttrBy?; unfold getAttrBy
  refine wpAny_bind (wpAny_mkText (wpAny_bind (wpAny_attempt (wpAny_holding (wpAny_bind (l0.at (wpAny_bind (l1.at ?_))))))))
  change wpAny _ _ (if (onTheHeap (Value.ref D) && Value.builtin "BaseException.__getattribute__" == Value.builtin "object.__getattribute__") = true then _ else _) _ _ _
  rw [n1, if_neg (show ¬ false = true by decide)]
  unfold getAttrByItsOwn; unfold hookBefore
  refine wpAny_bind (by
    rw [if_pos (show onTheHeap (Value.ref D) = true by rfl)]
    refine l2.at (wpAny_bind (wpAny_attempt (wpAny_holding ?_)))
    unfold callGetattribute
    rw [show (false && onTheHeap (Value.builtin "BaseException.__getattribute__")) = false from rfl, if_neg (show ¬ false = true by decide)]
    unfold boundAndCalled
    rw [PySem.F.excAttr_ValueError.ga.bind (Value.ref x)]
    refine wpAny_bind (m := pure _) (wpAny_pure ?_)
    change wpAny _ _ (call (.builtin "BaseException.__getattribute__") [.ref x, .str "__class__" t]) _ _ _
    refine wpAny_call (codeAny_call_builtin (PySem.F.excAttr_ValueError.ga.plain) PySem.F.entry_bexc_ga (@PySem.W.check_slot (model P w) _ _ ⟨hp, g, d, t + 1, os⟩ "BaseException.__getattribute__" "BaseException" "__getattribute__" (.ref x) [.str "__class__" t] [] _ (by decide +kernel) (by decide +kernel) base (PySem.F.args_bexc_ga (.ref x) (.str "__class__" t)) ?_))
    unfold PySem.Builtin.«object.__getattribute__»
    refine wpAny_bind (wpAny_of_eq (a := ((Value.ref x : Value), [Value.str "__class__" t])) (by first | rfl | (simp only [slotArgs]; rfl)) (wpAny_bind (wpAny_pure (wpAny_bind (l0.at (wpAny_bind (l3.at ?_)))))))
    change wpAny _ _ (holding [Value.builtin "object.__class__"] (call (.builtin "getset_descriptor.__get__") [.builtin "object.__class__", .ref x, .ref D]) >>= ret) _ _ _
    refine wpAny_bind (wpAny_holding (wpAny_call (PySem.W.class_get (s := ⟨hp, g, d, t + 1, os⟩) (ox := ox) (od := od) X I C.hm (wpAny_pure ?_))))
    change wpAny _ _ (handedOut (.ref D)) _ _ _
    rw [PySem.W.handedOut_of (v := .ref D) rfl]
    first
      | exact (wpAny_pure (wpAny_pure h))
      | exact wpAny_pure h
      | exact wpAny_pure (wpAny_bind (wpAny_pure (wpAny_pure h))))
theorem kit_exc (C : ExcC K D) : PySem.W.KitX K (.ref x) (.ref D) fun h => ∃ od, PySem.W.InstAt h x ox D od where
  ty := fun _ _ _ I => I.elim fun _ I => I.type
  it := fun _ _ X _ => by
    obtain ⟨cd, hc, _⟩ := PySem.W.any_some C.hd
    unfold PySem.W.clsIn at hc
    split at hc
    · rename_i at_
      intro A' Q' E' s' k q
      unfold isType loadHead
      exact wpAny_bind (wpAny_loadPart (k _ _ (X _ _ at_)) (wpAny_pure q))
    · cases hc
  ne := fun (h) tp dd its n sl X htp => by
    cases q : Value.ref D == .ref tp with
    | false => rfl
    | true =>
      cases Value.ref.inj (beq_iff_eq.mp q)
      obtain ⟨cd, hc, _⟩ := PySem.W.any_some C.hd
      unfold PySem.W.clsIn at hc
      split at hc
      · rename_i at_
        cases (X _ _ at_).symm.trans htp
      · cases hc
  ca := fun X I k => I.elim fun od I => class_asked (od := od) C X I k
end
theorem inst_exc {X : Cx} {a C dd : Addr} {oe : Obj} {pn pins : List (Addr × Obj)} {σ : L2.St} {H : Hp} {s : Shared} {fs : List (Str × V)} (hz : Zc (.ref C) (some dd) oe) (hf : ∃ vs, oe.data = .fields vs) (I : Inv (X.suite a ((a, oe) :: pn)) pins σ H s) (hd : H dd = some (.xd fs)) :
    ∃ od, PySem.W.InstAt s.heap a oe C (some od) ∧ ∀ n v, fs.lookup n = some v → ∃ u, PySem.W.lookIn n od = some (some u) ∧ RelV v u := by
  obtain ⟨vs, dat⟩ := hf
  obtain ⟨here, _⟩ := I.pin (a, oe) (List.mem_append.mpr (.inl (List.mem_cons_self)))
  have ok : ObjOk X.prog X.w H s.heap dd (.xd fs) := I.hok dd _ hd
  obtain ⟨mA, ns, rel⟩ := ok
  obtain ⟨od, ho, look⟩ := lookIn_ns ns
  refine ⟨od, ⟨here, hz.1, by unfold PySem.W.notCls; rw [dat] <;> rfl, by rw [hz.2]; exact ho⟩, fun n v e => ?_⟩
  obtain ⟨u, hu, ru⟩ := RelO.some_of (v := v) (o := mA n) (by rw [← e]; exact rel n)
  exact ⟨u, by rw [look, hu], ru⟩
/-- isinstance(e, c), e the exception of the suite -/
def rIsX (K : PySem.W.Frag) (a : Addr) (cls : Value) (d : Option Addr) : List V → Hp → VK → Prop := fun xs H Q => ∃ (D c dd : Addr) (fs : List (Str × V)) (b : Bool), xs = [.ref a, .ref c] ∧ cls = .ref D ∧ d = some dd ∧ H dd = some (.xd fs) ∧ ExcC K D ∧ PySem.W.kitOne K (.ref D) (.ref c) = some b ∧ Q (.bl b) H
theorem call_isX {X : Cx} {a : Addr} {cls : Value} {d : Option Addr} {oe : Obj} {pn : List (Addr × Obj)} (hz : Zc cls d oe) (hf : ∃ vs, oe.data = .fields vs) : CallR (X.suite a ((a, oe) :: pn)) (.builtin "isinstance") (rIsX X.K a cls d) := by
  intro pins s σ H xs us Q
  intro I r h
  obtain ⟨D, c, dd, fs, b, rfl, rfl, rfl, hd, C, kit, q⟩ := h
  obtain ⟨od, J, _⟩ := inst_exc hz hf I hd
  match us, r with
  | [_, _], .cons r1 (.cons r2 .nil) =>
    cases r1
    cases r2
    exact PySem.W.kia_one (kit_exc C) I.kIn ⟨_, J⟩ kit (fun z => nomatch z) fun tk => ⟨.bl b, H, I.kept (t' := tk) fun _ _ z => z, rfl, q⟩
/-- e.f, e the exception of the suite -/
def tXv (K : PySem.W.Frag) (a : Addr) (cls : Value) (d : Option Addr) (f : Str) (te : TE) : TE := fun σ H Q => te σ H fun x H1 => x = .ref a ∧ ∃ (C dd : Addr) (fs : List (Str × V)) (v : V), cls = .ref C ∧ d = some dd ∧ XfC K C ∧ PySem.W.findIn K (.ref C) f = some none ∧ H1 dd = some (.xd fs) ∧ fs.lookup f = some v ∧ Q v H1
theorem pe_xv {X : Cx} {a : Addr} {cls : Value} {d : Option Addr} {oe : Obj} {pn : List (Addr × Obj)} {e : Expr} {te : TE} {pos : Pos} {f : Str} (hz : Zc cls d oe) (hf : ∃ vs, oe.data = .fields vs) (he : PE (X.suite a ((a, oe) :: pn)) e te) (plain : attributeBase e f X.env (eval e X.env) = eval e X.env := by rfl) :
    PE (X.suite a ((a, oe) :: pn)) (.Attribute e f pos) (tXv X.K a cls d f te) := by
  refine .mk ?_
  intro ps s σ H Q I h
  refine attr_of plain (thn (he.run ps s σ H _ I h) fun u s1 out => ?_)
  obtain ⟨x, H1, I1, rx, rfl, C, dd, fs, v, rfl, rfl, T, no, hd, look, q⟩ := out
  obtain rfl : u = Value.ref a := rx
  obtain ⟨od, J, get⟩ := inst_exc hz hf I1 hd
  obtain ⟨u, hu, ru⟩ := get _ _ look
  exact HandSPX.exc_get I1.kIn J T.ga T.gg T.exC (PySem.W.findObj_own T.hdC no rfl hu) (handed_of ru) ⟨v, H1, I1.tok _, ru, q⟩
/-! ### calls in a try's body: what they may raise is told by the state -/
abbrev tFnS (sp : Sp) (W : WX) (t : TA) : TE := tCallS sp (WE W) t
section
variable {X : Cx} {k : Nat} {x C : Str} {ps : List Str} {sp : Sp} {W : WX} {p pos : Pos} {e : Expr} {es : List Expr} {t : TA}
theorem pe_foS (g : GoodO X.prog X.w X.K X.mg X.base k x ps sp) (hr : Room k X.A) (hg : Gl X x) (tk : Takes X W) (hpl : (backTo pos (starEach es X.env)).any (·.1) = false := by rfl) (he : starEach (e :: es) X.env = (false, eval e X.env) :: starEach es X.env := by rfl) (ha : PA X (e :: es) t)
    (hdb : (x == ("__debug__" : Str)) = false := by decide) : PE X (.Call (.Name x p) (e :: es) [] pos) (tFnS sp W t) := by
  obtain ⟨fd, F, hb⟩ := g.fn
  exact pe_callS F hr hg g.mg g.kp hb (passAt tk) ha hdb he hpl
end
/-- a try as a statement -/
def tTry (Wout : WX) (tb : WX → TS) (l : List Clz) : TS := fun D σ H => tb (wCl Wout D l) D σ H
/-! ### what a law never comes to -/
def tNeverS : TS := fun _ _ _ => False
theorem ps_never {X : Cx} {st : Stmt} : PS X st tNeverS := ⟨fun _ _ _ _ _ _ h => h.elim⟩
/-! ### one's own exceptions, all directly under one -/
structure XF (K : PySem.W.Frag) (B : Str) (cs : List Str) : Prop where
  m : ∀ x ∈ cs, ∀ y ∈ B :: cs, PySem.W.exmOne K (.ref (He.ga K x)) (.ref (He.ga K y)) = some (decide (y = B ∨ y = x))
  i : ∀ x ∈ cs, ∀ y ∈ B :: cs, PySem.W.kitOne K (.ref (He.ga K x)) (.ref (He.ga K y)) = some (decide (y = B ∨ y = x))
  c : ∀ x ∈ cs, ExcC K (He.ga K x)
  f : ∀ x ∈ cs, XfC K (He.ga K x)
  v : ∀ x ∈ cs, PySem.W.findIn K (.ref (He.ga K x)) "value" = some none
def excCB (K : PySem.W.Frag) (D : Addr) : Bool := decide (PySem.W.findIn K (.ref D) "__getattribute__" = some (some (.builtin "BaseException.__getattribute__"))) && (decide (PySem.W.findIn K (.ref D) "__getattr__" = some none) && (decide (PySem.W.subIn K (.ref D) (.type "BaseException") = some true) &&
  (PySem.W.hasDictIn K D && (decide (PySem.W.findIn K (.ref D) "__class__" = some (some (.builtin "object.__class__"))) && (decide (PySem.W.specialIn K (.builtin "object.__class__") "__get__" = some (some (.builtin "getset_descriptor.__get__"))) &&
  (decide (PySem.W.takesIn K (.builtin "object.__class__") = some true) && (decide (PySem.W.mroIn K D (.type "object") = some true) && decide (PySem.W.findIn K (.ref D) "value" = some none))))))))
def xFB (B : Str) (cs : List Str) (K : PySem.W.Frag) : Bool := cs.all fun x => excCB K (He.ga K x) && (B :: cs).all fun y => decide (PySem.W.exmOne K (.ref (He.ga K x)) (.ref (He.ga K y)) = some (decide (y = B ∨ y = x))) && decide (PySem.W.kitOne K (.ref (He.ga K x)) (.ref (He.ga K y)) = some (decide (y = B ∨ y = x)))
theorem xF_ok {K : PySem.W.Frag} {B : Str} {cs : List Str} (h : xFB B cs K = true) : XF K B cs := by
  have all : ∀ x ∈ cs, ExcC K (He.ga K x) ∧ PySem.W.findIn K (.ref (He.ga K x)) "value" = some none ∧ ∀ y ∈ B :: cs, PySem.W.exmOne K (.ref (He.ga K x)) (.ref (He.ga K y)) = some (decide (y = B ∨ y = x)) ∧ PySem.W.kitOne K (.ref (He.ga K x)) (.ref (He.ga K y)) = some (decide (y = B ∨ y = x)) := fun x hx => by
    have q := List.all_eq_true.mp h x hx
    rw [Bool.and_eq_true] at q
    obtain ⟨q1, q2⟩ := q
    unfold excCB at q1
    simp only [decide_eq_true_eq, Bool.and_eq_true] at q1
    obtain ⟨a1, a2, a3, a4, a5, a6, a7, a8, a9⟩ := q1
    refine ⟨⟨a1, a2, a3, a4, a5, a6, a7, a8⟩, a9, fun y hy => ?_⟩
    have z := List.all_eq_true.mp q2 y hy
    rw [Bool.and_eq_true] at z
    exact ⟨of_decide_eq_true z.1, of_decide_eq_true z.2⟩
  exact ⟨fun x hx y hy => ((all x hx).2.2 y hy).1, fun x hx y hy => ((all x hx).2.2 y hy).2, fun x hx => (all x hx).1, fun x hx => ⟨(all x hx).1.hg, (all x hx).1.hk, (all x hx).1.hs, (all x hx).1.hd⟩, fun x hx => (all x hx).2.1⟩
end U
namespace U
open PySem PySem.Spec PyProof.Rows L2

theorem ps_tryT {X : Cx} {body : List Stmt} {h0 : ExceptHandler} {hds : List ExceptHandler} {l : List Clz} {pos : Pos} {tb : WX → TS} {Wout : WX} (hs : X.stack = X.env :: X.outer) (hf : X.env.frame = some X.env.locals) (hN : X.N.Nodup) (tk : Takes X Wout)
    (hb : ∀ (W : WX) (pn : List (Addr × Obj)) (xe : Value → Shared → Prop), Takes (X.tr pn xe) W → PassesOwn (model X.prog X.w) X.A X.env xe → PSs (X.tr pn xe) body (tb W))
    (hh : ClsOk X (h0 :: hds) l) : PS X (.Try body (h0 :: hds) [] [] pos) (tTry Wout tb l) := ps_try_cl hs hf hN tk hb hh
/-! ### a classmethod of the module -/
section
variable {X : Cx} {k : Nat} {C m : Str} {ps : List Str} {sp : Sp} {E : XK} {o e : Expr} {es : List Expr} {pos apos : Pos} {ta : TE} {t : TA} {pl : Sem Bool}
end
/-! ### sorted(text), fewer than 64 signs -/
end U
namespace U
open PySem PySem.Spec PyProof.Rows L2

/-! ### texts of data are texts -/
theorem ok_app {a b : Str} (ha : PyData.strOk a = true) (hb : PyData.strOk b = true) : PyData.strOk (a ++ b) = true := by
  show (a.cps ++ b.cps).all (· < 0x110000) = true
  rw [Array.all_append]
  exact Bool.and_eq_true_iff.mpr ⟨ha, hb⟩
theorem ok_of (s : String) : PyData.strOk (Str.ofString s) = true := by
  rw [Str.ofString_eq_toList]
  show ((s.toList.map Char.toNat).toArray).all (· < 0x110000) = true
  rw [List.all_toArray, List.all_eq_true]
  intro n hn
  obtain ⟨c, _, rfl⟩ := List.mem_map.mp hn
  refine decide_eq_true ?_
  have := c.valid
  unfold Char.toNat
  rcases this with h | ⟨_, h⟩
  · exact Nat.lt_trans h (by decide)
  · exact h
theorem ok_join {sep : Str} (hs : PyData.strOk sep = true) : ∀ {ts : List Str}, (∀ t ∈ ts, PyData.strOk t = true) → PyData.strOk (Str.join sep ts) = true
  | [], _ => by show PyData.strOk Str.empty = true; decide +kernel
  | [x], h => h x List.mem_cons_self
  | x :: y :: r, h => ok_app (ok_app (h x List.mem_cons_self) hs) (ok_join hs fun t m => h t (List.mem_cons_of_mem _ m))
theorem ok_from : ∀ {ts : List Str} {k : Nat} {acc : Str}, PyData.strOk acc = true → (∀ t ∈ ts, PyData.strOk t = true) → PyData.strOk (textFrom k acc ts) = true
  | [], _, _, ha, _ => ha
  | t :: r, k, acc, ha, h => by
    unfold textFrom
    exact ok_from (ok_app (ok_app ha (ok_of _)) (h t List.mem_cons_self)) fun x m => h x (List.mem_cons_of_mem _ m)
mutual
/-- all texts in it are shown by texts -/
def fine : PyData → Bool
  | .none | .int _ | .bool _ => true
  | .str x => PyData.strOk (reprText x)
  | .list xs | .tuple xs => fineAll xs
  | .dict kvs => fineKv kvs
def fineAll : List PyData → Bool
  | [] => true
  | x :: xs => fine x && fineAll xs
def fineKv : List (PyData × PyData) → Bool
  | [] => true
  | (k, v) :: r => fine k && (fine v && fineKv r)
end
mutual
theorem ok_shown : ∀ d : PyData, fine d = true → PyData.strOk d.shown = true
  | .none, _ => by decide +kernel
  | .bool true, _ => by decide +kernel
  | .bool false, _ => by decide +kernel
  | .int i, _ => by rw [PyData.shown_int]; exact ok_of _
  | .str x, h => by rw [PyData.shown_str]; simpa only [fine] using h
  | .list xs, h => by
    have q := ok_shownAll xs (by simpa only [fine] using h)
    rw [PyData.shown]
    exact ok_app (ok_from (ok_of _) q) (ok_of _)
  | .tuple xs, h => by
    have q := ok_shownAll xs (by simpa only [fine] using h)
    rw [PyData.shown]
    exact ok_app (ok_app (ok_of _) (ok_join (ok_of _) q)) (ok_of _)
  | .dict kvs, h => by
    have q := ok_shownKv kvs (by simpa only [fine] using h)
    rw [PyData.shown]
    exact ok_app (ok_app (ok_of _) (ok_join (ok_of _) q)) (ok_of _)
theorem ok_shownAll : ∀ xs : List PyData, fineAll xs = true → ∀ t ∈ PyData.shownAll xs, PyData.strOk t = true
  | [], _, t, m => by rw [PyData.shownAll] at m; cases m
  | x :: r, h, t, m => by
    have h : fine x = true ∧ fineAll r = true := by simpa only [fineAll, Bool.and_eq_true] using h
    rw [PyData.shownAll] at m
    rcases List.mem_cons.mp m with rfl | m
    · exact ok_shown x h.1
    · exact ok_shownAll r h.2 t m
theorem ok_shownKv : ∀ kvs : List (PyData × PyData), fineKv kvs = true → ∀ t ∈ PyData.shownKv kvs, PyData.strOk t = true
  | [], _, t, m => by rw [PyData.shownKv] at m; cases m
  | (k, v) :: r, h, t, m => by
    have h : fine k = true ∧ fine v = true ∧ fineKv r = true := by simpa only [fineKv, Bool.and_eq_true] using h
    rw [PyData.shownKv] at m
    rcases List.mem_cons.mp m with rfl | m
    · exact ok_app (ok_app (ok_shown k h.1) (ok_of _)) (ok_shown v h.2.1)
    · exact ok_shownKv r h.2.2 t m
end
/-! ### data with dicts in it -/
def kD : Key → PyData
  | .inl i => .int i
  | .inr x => .str x
mutual
inductive Dq (K : PySem.W.Frag) (H : Hp) : V → PyData → Prop
  | qnon : Dq K H .non .none
  | qbl (b : Bool) : Dq K H (.bl b) (.bool b)
  | qint (i : Int) : Dq K H (.int i) (.int i)
  | qstr (x : Str) : Dq K H (.str x) (.str x)
  | qlst {l : Addr} {vs : List V} {es : List PyData} : SqL K H l vs → DqAll K H vs es → Dq K H (.ref l) (.list es)
  | qtup {l : Addr} {vs : List V} {es : List PyData} : SqT K H l vs → DqAll K H vs es → Dq K H (.ref l) (.tuple es)
  | qdct {l : Addr} {kvs : List (Key × V)} {es : List (PyData × PyData)} : H l = some (.dK kvs) → es.map (·.1) = kvs.map (fun p => kD p.1) → DqAll K H (kvs.map (·.2)) (es.map (·.2)) → Dq K H (.ref l) (.dict es)
inductive DqAll (K : PySem.W.Frag) (H : Hp) : List V → List PyData → Prop
  | qnil : DqAll K H [] []
  | qcons {x : V} {xs : List V} {e : PyData} {es : List PyData} : Dq K H x e → DqAll K H xs es → DqAll K H (x :: xs) (e :: es)
end
/-- the interpreter's own table of modules is a dict -/
def sysB (K : PySem.W.Frag) : Bool := match K.lookup sysModules with
  | some o => decide (o.cls = .type "dict")
  | none => false
def KS (K : PySem.W.Frag) : Prop := ∃ o, K.lookup sysModules = some o ∧ o.cls = .type "dict"
theorem kS_ok {K : PySem.W.Frag} (h : sysB K = true) : KS K := by
  unfold sysB at h
  split at h
  · rename_i o e
    exact ⟨o, e, of_decide_eq_true h⟩
  · cases h
theorem kv_vals {kvs : List (Key × V)} {vs : List (Key × Value)} (h : KV kvs vs) : kvs.map (fun p => kD p.1) = vs.map (fun p => kD p.1) ∧ Vals (kvs.map (·.2)) (vs.map (·.2)) := by
  induction h with
  | nil => exact ⟨rfl, .nil⟩
  | cons r _ ih => exact ⟨by rw [List.map_cons, List.map_cons, r.1, ih.1], .cons r.2 ih.2⟩
theorem keys_read {P : Program} {w : World} {h : Heap} {es : List DictEntry} {vs : List (Key × Value)} (p : Pairs (mixKind P w) es vs) : ReadsAll h (es.map (·.key)) (vs.map fun p => kD p.1) [] ∧ es.map (·.val) = vs.map (·.2) := by
  induction p with
  | nil => exact ⟨.nil, rfl⟩
  | @cons e kv es kvs a b _ ih =>
    refine ⟨?_, by rw [List.map_cons, List.map_cons, b, ih.2]⟩
    have q : Reads h e.key (kD kv.1) [] := by
      rcases keyIs_shape a with ⟨i, t, e1, e2⟩ | ⟨x, t, e1, e2⟩
      · rw [e1, e2]; exact .int i t
      · rw [e1, e2]; exact .str x t
    exact ReadsAll.cons q ih.1
section
variable {X : Cx} {pins : List (Addr × Obj)} {σ : L2.St} {H : Hp} {s : Shared} {v : V} {d : PyData}
theorem Dq.reads (S : KS X.K) (I : Inv X pins σ H s) (h : Dq X.K H v d) : ∀ u, RelV v u → ∃ as, sysModules ∉ as ∧ Reads s.heap u d as := by
  obtain ⟨o0, so, sc⟩ := S
  have here := I.kIn _ _ so
  have other : ∀ l o, s.heap.get? l = some o → o.cls = .type "list" → sysModules ≠ l := by
    intro l o e c q
    rw [← q, here] at e
    cases e
    rw [sc] at c
    exact absurd c (by decide)
  refine Dq.rec (motive_1 := fun v d _ => ∀ u, RelV v u → ∃ as, sysModules ∉ as ∧ Reads s.heap u d as) (motive_2 := fun vs ds _ => ∀ us, Vals vs us → ∃ as, sysModules ∉ as ∧ ReadsAll s.heap us ds as) ?_ ?_ ?_ ?_ ?_ ?_ ?_ ?_ ?_ h
  · intro u r; cases r; exact ⟨_, by simp, .none⟩
  · intro b u r; cases r; exact ⟨_, by simp, .bool b⟩
  · intro i u r; obtain ⟨t, rfl⟩ := r; exact ⟨_, by simp, .int i t⟩
  · intro x u r; obtain ⟨t, rfl⟩ := r; exact ⟨_, by simp, .str x t⟩
  · intro l vs es hs _ ih u r
    cases r
    rcases I.list hs with ⟨its, rv, ⟨o, n, ho, hc, _, hd⟩, _⟩
    obtain ⟨as, na, q⟩ := ih _ rv
    exact ⟨_, fun m => (List.mem_cons.mp m).elim (other l o ho hc) na, Reads.list ho hc hd q⟩
  · intro l vs es hs _ ih u r
    cases r
    rcases I.tuple hs with ⟨its, rv, ⟨o, ho, hc, n, hd⟩, _⟩
    obtain ⟨as, na, q⟩ := ih _ rv
    exact ⟨_, na, Reads.tuple ho hc hd q⟩
  · intro l kvs es e ek _ ih u r
    cases r
    obtain ⟨_, nS, vs, rel, o, ents, ep, ho, hx, hdat, _, hp, _⟩ := dk_of I.hok e
    have kv := kv_vals rel
    obtain ⟨as, na, q⟩ := ih _ kv.2
    have kr := keys_read (h := s.heap) hp
    rw [← kv.1, ← ek] at kr
    rw [← kr.2] at q
    refine ⟨l :: [] ++ as, fun m => ?_, Reads.dict ho hx.1 hdat kr.1 q⟩
    rcases List.mem_cons.mp m with m | m
    · rw [← m] at nS
      exact absurd nS (by decide)
    · exact na m
  · intro us r; cases r; exact ⟨_, by simp, .nil⟩
  · intro x xs e es _ _ i1 i2 us r
    cases r with
    | cons r1 r2 =>
      obtain ⟨as, na, q1⟩ := i1 _ r1
      obtain ⟨bs, nb, q2⟩ := i2 _ r2
      exact ⟨_, fun m => (List.mem_append.mp m).elim na nb, ReadsAll.cons q1 q2⟩
theorem Dq.same {K : PySem.W.Frag} {H H' : Hp} {v : V} {d : PyData} (e : Same H H') (h : Dq K H v d) : Dq K H' v d :=
  Dq.rec (motive_1 := fun v d _ => Dq K H' v d) (motive_2 := fun vs ds _ => DqAll K H' vs ds) .qnon .qbl .qint .qstr (fun s _ ih => .qlst (Same.seq e s) ih) (fun s _ ih => .qtup (Same.sqT e s) ih) (fun at_ k _ ih => .qdct (e _ _ at_) k ih) .qnil (fun _ _ a b => .qcons a b) h
/-- the text of any data, dicts among them -/
def uReprQ (K : PySem.W.Frag) : List V → Hp → VK → Prop := fun xs H Q => ∃ v d, xs = [v] ∧ Dq K H v d ∧ d.showable = true ∧ d.depth ≤ 60 ∧ d.shown.length ≤ sizeLine ∧ Q (.str d.shown) H
theorem call_uReprQ (hA : X.A.guards = some []) (hu : X.A.units + 64 < cLine) (S : KS X.K) : CallR X (.builtin "repr") (uReprQ X.K) := by
  intro ps s σ H xs us R I r h
  obtain ⟨v, d, rfl, hd, hs, hz, hl, q⟩ := h
  cases hd with
  | qnon =>
    obtain ⟨_, rfl, same⟩ := vals1 r
    cases same
    rw [PyData.shown] at q
    exact PySem.P.repr_of_none ⟨.str _, H, I.tok _, ⟨_, rfl⟩, q⟩
  | qbl b =>
    obtain ⟨_, rfl, same⟩ := vals1 r
    cases same
    refine PySem.P.repr_of_bool ⟨.str _, H, I.tok _, ⟨s.toks, ?_⟩, q⟩
    cases b <;> rfl
  | qint i =>
    obtain ⟨_, rfl, t, rfl⟩ := vals1 r
    rw [PyData.shown_int] at q
    refine PySem.P.repr_of_int ?_ ⟨.str _, H, I.tok _, ⟨_, rfl⟩, q⟩
    simpa [PyData.showable] using hs
  | qstr x =>
    obtain ⟨_, rfl, t, rfl⟩ := vals1 r
    rw [PyData.shown_str] at q hl
    exact PySem.P.repr_of_str ⟨.str _, H, I.tok _, ⟨_, rfl⟩, q⟩ hl
  | qlst a b =>
    obtain ⟨_, rfl, same⟩ := vals1 r
    cases same
    obtain ⟨as, na, rr⟩ := Dq.reads S I (.qlst a b) _ rfl
    exact repr_of_reads' rr hs (fun _ => na) hA (by omega) (fun _ _ z => z) (fun h' u tk k => ⟨.str _, H, I.kept (t' := tk) k, ⟨_, rfl⟩, q⟩) hl
  | qtup a b =>
    obtain ⟨_, rfl, same⟩ := vals1 r
    cases same
    obtain ⟨as, na, rr⟩ := Dq.reads S I (.qtup a b) _ rfl
    exact repr_of_reads' rr hs (fun _ => na) hA (by omega) (fun _ _ z => z) (fun h' u tk k => ⟨.str _, H, I.kept (t' := tk) k, ⟨_, rfl⟩, q⟩) hl
  | qdct a b c =>
    obtain ⟨_, rfl, same⟩ := vals1 r
    cases same
    obtain ⟨as, na, rr⟩ := Dq.reads S I (.qdct a b c) _ rfl
    exact repr_of_reads' rr hs (fun _ => na) hA (by omega) (fun _ _ z => z) (fun h' u tk k => ⟨.str _, H, I.kept (t' := tk) k, ⟨_, rfl⟩, q⟩) hl
end
end U
namespace U
open PySem PySem.Spec PySem.Calls PyProof.Rows L2

/-! ### cls(..): an object of one's own class, whose class stands in a local name -/
section
variable {X : Cx} {k i : Nat} {x C : Str} {ps : List Str} {sp : Sp} {E : XK} {p pos : Pos} {e : Expr} {es : List Expr} {t : TA}
end
/-! ### o.m(k = v, ..): all arguments by their names -/
section
variable {X : Cx} {CX : CXT} {k : Nat} {f C : Addr} {fd : FuncData} {ps ks : List Str} {sp : Sp} {E : XK} {m : Str} {pos apos : Pos} {o : Expr} {kws : List Keyword} {ta : TE} {tk : TA} {g : List Value → List Value → List Value} {gV : List V → List V → List V} {pl : Sem Bool}
end
end U
namespace U
open PySem PySem.Spec PySem.Calls PyProof.Rows L2

/-! ### x == y where x is of a class with an __eq__ of its own -/
section
variable {X : Cx} {CX : CXT} {n : Nat} {C f : Addr} {fd : FuncData} {ps : List Str} {sp : Sp} {E : XK}
end
end U
namespace U
open PySem PySem.Spec PyProof.Rows L2

/-! ### lists of small integers: their texts, and whether they are alike -/
section
variable {K : PySem.W.Frag} {H : Hp} {Q : VK} {p p' : Addr} {ns ms : List Int}
end
/-! ### lists of texts -/
section
variable {K : PySem.W.Frag} {H : Hp}
theorem dp_strs {p : Addr} {xs : List Str} (h : SqL K H p (xs.map V.str)) : Dp K H (.ref p) (.list (xs.map PyData.str)) := by
  refine .lst h ?_
  clear h
  induction xs with
  | nil => exact .nil
  | cons n r ih => exact .cons (.str n) ih
theorem strs_shaped {xs : List Str} (h : ∀ x ∈ xs, PyData.strOk x = true) : SeqAt.shaped (.list (xs.map PyData.str)) = true := by
  have h1 : PyData.canLayAll0 (xs.map PyData.str) = true := by
    induction xs with
    | nil => rfl
    | cons a r ih =>
      have i1 := ih fun x m => h x (List.mem_cons_of_mem _ m)
      have i2 := h a List.mem_cons_self
      simp [PyData.canLayAll0, PyData.canLay0, i1, i2]
  have h2 : PyData.depthAll (xs.map PyData.str) = 0 := by
    clear h h1
    induction xs with
    | nil => rfl
    | cons a r ih => simp [PyData.depthAll, PyData.depth, ih]
  unfold SeqAt.shaped
  rw [PyData.canLay0, h1, PyData.depth, h2]
  decide
end
end U
namespace U
open PySem PySem.Spec PyProof.Rows L2

/-! ### dict(zip(text, tuple)): a zip whose pair is still held by the loop that fills the dict -/
section
variable {P : Program} {w : World} {A : Around} {E : Value → Shared → Prop} {s : Shared} {z TI TO T i1 i2 : Addr} {fa fb : List Addr} {n m i : Nat} {R1 R2 : Nat → Value → Prop} {S1 S2 : Nat → Heap → Prop} {f : Bool} {oT : Obj}
end
end U
namespace U
open PySem PySem.Spec PyProof.Rows L2

/-! ### dict(zip(text, tuple)) -/
/-- the cells: the zip, its pair of iterators, its last pair, the two iterators, the tuple -/
structure TCells (z TI TO i1 i2 l : Addr) : Prop where
  n1 : TI ≠ z
  n2 : TO ≠ z
  n3 : TI ≠ TO
  n4 : TI ≠ i1
  n5 : TI ≠ i2
  n6 : z ≠ i1
  n7 : z ≠ i2
  n8 : TO ≠ i1
  n9 : TO ≠ i2
  n10 : i1 ≠ i2
  l1 : l ≠ z
  l2 : l ≠ TO
  l3 : l ≠ i1
  l4 : l ≠ i2
theorem TCells.sep {z TI TO i1 i2 l : Addr} (c : TCells z TI TO i1 i2 l) : ZipSep2 z TI TO i1 i2 [i1] [i2, l] where
  TIz := c.n1
  TOz := c.n2
  TITO := c.n3
  TIi1 := c.n4
  mem1 := List.mem_cons_self
  zf1 := by simp [c.n6]
  Tf1 := by simp [c.n8]
  TIi2 := c.n5
  mem2 := List.mem_cons_self
  zf2 := by simp [c.n7, c.l1.symm]
  Tf2 := by simp [c.n9, c.l2.symm]
  sep1_2 := by simp [c.n10, c.l3.symm]
  sep2_1 := by simp [c.n10.symm]
end U
namespace U
open PySem PySem.Spec PyProof.Rows L2

/-! ### str(x), by the kinds of x -/
end U
namespace U
open PySem PySem.Spec PyProof.Rows L2

/-! ### enumerate(tuple) -/
section
open Sem (wp)
end
end U
namespace U
open PySem PySem.Spec PyProof.Rows L2

/-! ### the table of turns -/
def turnsT : List (Str × List Int) := [("ab", [0, 1, 5, 2, 0, 1, 2]), ("ac", [1, 0, 3, 4, 0, 2, 1]), ("ba", [2, 3, 4, 0, 1, 0, 2]), ("bc", [3, 2, 1, 5, 1, 2, 0]), ("ca", [4, 5, 2, 1, 2, 0, 1]), ("cb", [5, 4, 0, 3, 2, 1, 0])]
def TuK (K : PySem.W.Frag) (w : World) : Prop := ∀ q ∈ turnsT, ∃ p, KDct K w (He.ga K "_TURNS") q.1 (.ref p) ∧ ∀ H, SqT K H p (q.2.map V.int)
def rTurn (K : PySem.W.Frag) : R2 := fun x y H Q => ∃ z ns, x = .ref (He.ga K "_TURNS") ∧ y = .str z ∧ (z, ns) ∈ turnsT ∧ ∀ p, SqT K H p (ns.map V.int) → Q (.ref p) H
theorem ix_turn {X : Cx} (h : TuK X.K X.w) : IxR X (rTurn X.K) := by
  intro ea eb pins s σ H x y u v Q I rx ry q
  obtain ⟨z, t, rfl, rfl, hm, q⟩ := q
  obtain ⟨p, h1, h2⟩ := h _ hm
  exact ix_kdict ea eb pins s σ H _ _ u v Q I rx ry ⟨_, z, _, rfl, rfl, h1, q p (h2 H)⟩
def tupAtB (K : PySem.W.Frag) (p : Addr) (ns : List Int) : Bool := match K.lookup p with
  | some ⟨.type c, _, .seq its _, _⟩ => decide (c = "tuple") && (decide (its.size ≤ sizeLine) && He.relAll (ns.map V.int) its.toList)
  | _ => false
theorem tupAtB_ok {K : PySem.W.Frag} {p : Addr} {ns : List Int} (h : tupAtB K p ns = true) (H : Hp) : SqT K H p (ns.map V.int) := by
  unfold tupAtB at h
  split at h
  · rename_i c dd its n sl e
    (simp only [Bool.and_eq_true, decide_eq_true_eq] at h)
    exact .inr ⟨_, its, n, e, congrArg Value.type h.1, rfl, h.2.1, He.relAll_ok h.2.2⟩
  · cases h
def tuB (K : PySem.W.Frag) : Bool := turnsT.all fun q => match PySem.W.nsIn K (He.ga K "_TURNS") q.1 with
  | some (some (.ref p)) => tupAtB K p q.2
  | _ => false
theorem tuK_of {K : PySem.W.Frag} {w : World} (hd : ∃ es n, KDict K w (He.ga K "_TURNS") es n) (hv : tuB K = true) : TuK K w := by
  obtain ⟨es, n, h1, h2, h3⟩ := hd
  intro q hq
  have := List.all_eq_true.mp hv q hq
  split at this
  · rename_i p e
    exact ⟨p, ⟨es, n, _, h1, h2, e, rfl⟩, tupAtB_ok this⟩
  · cases this
end U
namespace U
open PySem PySem.Spec PyProof.Rows L2
/-- the exceptions that the law catches -/
def excN : List Str := ["InvalidYard", "InvalidArrangement", "InvalidWay", "InvalidPaper"]
end U
namespace U
open PySem PySem.Spec PyProof.Rows L2

def krB (K : PySem.W.Frag) : Bool := (He.Fa.cls "Reckoning").ok K && ((He.Fa.noat "Reckoning" "bound").ok K && ((He.Fa.noat "Reckoning" "prices").ok K && ((He.Fa.noat "Reckoning" "towers").ok K && ((He.Fa.noat "Reckoning" "_backwards").ok K && decide (He.ga K "Yard" ≠ He.ga K "Reckoning")))))
end U
namespace U
open PySem PySem.Spec PyProof.Rows L2
def top (i : Nat) : Stmt := PySem.Challenge.pw_cratetowers_k26_costs_refused.main.body.getD i (.Pass ⟨0, 0, 0, 0⟩)
abbrev s_InvalidYard_init : Stmt := inClass (top 3) 0
abbrev s_InvalidArrangement_init : Stmt := inClass (top 5) 0
abbrev s_InvalidWay_init : Stmt := inClass (top 6) 0
abbrev s_InvalidPaper_init : Stmt := inClass (top 9) 0
abbrev s_both_lines : Stmt := top 12
abbrev s_towers_above : Stmt := top 13
abbrev s_to_towers_above : Stmt := top 14
abbrev s__from_place : Stmt := top 15
abbrev s_turned : Stmt := top 16
abbrev s_from_each_tower : Stmt := top 17
abbrev s_reckoning_of : Stmt := top 18
abbrev s_without_bars : Stmt := top 19
abbrev s_Reckoning_init : Stmt := inClass (top 20) 0
abbrev s_Reckoning_backwards : Stmt := inClass (top 20) 1
abbrev s_Reckoning_to_towers : Stmt := inClass (top 20) 2
abbrev s_Reckoning_from_towers : Stmt := inClass (top 20) 3
abbrev s_Reckoning_cheapest : Stmt := inClass (top 20) 4
abbrev s_Reckoning_told : Stmt := inClass (top 20) 5
abbrev s_Reckoning_named : Stmt := inClass (top 20) 6
abbrev s_first_apart : Stmt := top 21
abbrev s_are_levels : Stmt := top 23
abbrev s__is_level : Stmt := top 24
abbrev s_bound_beyond : Stmt := top 25
abbrev s_bounded_prices : Stmt := top 26
abbrev s_numbers_of : Stmt := top 27
abbrev s_are_within : Stmt := top 28
abbrev s_is_way : Stmt := top 36
abbrev s_is_price : Stmt := top 37
abbrev s_is_integer : Stmt := top 38
abbrev s_check_way : Stmt := top 41
abbrev s_check_yard : Stmt := top 42
abbrev s_Yard_init : Stmt := inClass (top 44) 0
abbrev s_Yard_len : Stmt := inClass (top 44) 3
abbrev s_Yard_rows : Stmt := inClass (top 44) 6
abbrev s_Yard_price_rows : Stmt := inClass (top 44) 7
abbrev s_Yard_reckoning : Stmt := inClass (top 44) 8
abbrev s__are_rows : Stmt := top 45
abbrev s__is_price_row : Stmt := top 46
abbrev s_tables : Stmt := top 53
abbrev s_tower_cost : Stmt := top 54
abbrev s_is_paper : Stmt := top 55
abbrev s_are_within_lines_levels : Stmt := top 56
abbrev s_told_cost : Stmt := top 58
abbrev s_straight_ways : Stmt := top 59
abbrev s__straight_ways : Stmt := top 60
abbrev s_is_arrangement : Stmt := top 63
abbrev s_check_arrangement : Stmt := top 64
abbrev s_check_both : Stmt := top 65
abbrev s_to_towers : Stmt := top 67
abbrev s_from_towers : Stmt := top 68
abbrev s_least : Stmt := top 69
abbrev s_largest_moving : Stmt := top 70
abbrev s_paper : Stmt := top 71
abbrev s_is_cost_paper : Stmt := top 72
abbrev s_are_within_lines_costs : Stmt := top 73
abbrev s__are_within_sums : Stmt := top 75
abbrev s_shown_cost : Stmt := top 76
abbrev s__law_cell : Stmt := top 78
abbrev s__law_bag : Stmt := top 79
abbrev s__law_take : Stmt := top 80
abbrev s__law_rows : Stmt := top 81
abbrev s__law_word : Stmt := top 82
abbrev s__law_asked : Stmt := top 83
abbrev s__law_caught : Stmt := top 84
abbrev s__law_very_right : Stmt := top 85
abbrev s__law_right : Stmt := top 86
abbrev s_law : Stmt := top 87
abbrev mkD (at_ : PySem.W.Frag → Addr) (nm qual : Str) (st : Stmt) : He5.DefA := ⟨at_, nm, qual, defArgs st, defBody st, defScope st, [], []⟩
def d_InvalidYard_init : He5.DefA := mkD (fun K => He.ma K (He.ga K "InvalidYard") "__init__") "__init__" "InvalidYard.__init__" s_InvalidYard_init
def d_InvalidArrangement_init : He5.DefA := mkD (fun K => He.ma K (He.ga K "InvalidArrangement") "__init__") "__init__" "InvalidArrangement.__init__" s_InvalidArrangement_init
def d_InvalidWay_init : He5.DefA := mkD (fun K => He.ma K (He.ga K "InvalidWay") "__init__") "__init__" "InvalidWay.__init__" s_InvalidWay_init
def d_InvalidPaper_init : He5.DefA := mkD (fun K => He.ma K (He.ga K "InvalidPaper") "__init__") "__init__" "InvalidPaper.__init__" s_InvalidPaper_init
def d_both_lines : He5.DefA := mkD (fun K => He.ga K "both_lines") "both_lines" "both_lines" s_both_lines
def d_towers_above : He5.DefA := mkD (fun K => He.ga K "towers_above") "towers_above" "towers_above" s_towers_above
def d_to_towers_above : He5.DefA := mkD (fun K => He.ga K "to_towers_above") "to_towers_above" "to_towers_above" s_to_towers_above
def d__from_place : He5.DefA := mkD (fun K => He.ga K "_from_place") "_from_place" "_from_place" s__from_place
def d_turned : He5.DefA := mkD (fun K => He.ga K "turned") "turned" "turned" s_turned
def d_from_each_tower : He5.DefA := mkD (fun K => He.ga K "from_each_tower") "from_each_tower" "from_each_tower" s_from_each_tower
def d_reckoning_of : He5.DefA := mkD (fun K => He.ga K "reckoning_of") "reckoning_of" "reckoning_of" s_reckoning_of
def d_without_bars : He5.DefA := mkD (fun K => He.ga K "without_bars") "without_bars" "without_bars" s_without_bars
def d_Reckoning_init : He5.DefA := mkD (fun K => He.ma K (He.ga K "Reckoning") "__init__") "__init__" "Reckoning.__init__" s_Reckoning_init
def d_Reckoning_backwards : He5.DefA := mkD (fun K => He.ma K (He.ga K "Reckoning") "backwards") "backwards" "Reckoning.backwards" s_Reckoning_backwards
def d_Reckoning_to_towers : He5.DefA := mkD (fun K => He.ma K (He.ga K "Reckoning") "to_towers") "to_towers" "Reckoning.to_towers" s_Reckoning_to_towers
def d_Reckoning_from_towers : He5.DefA := mkD (fun K => He.ma K (He.ga K "Reckoning") "from_towers") "from_towers" "Reckoning.from_towers" s_Reckoning_from_towers
def d_Reckoning_cheapest : He5.DefA := mkD (fun K => He.ma K (He.ga K "Reckoning") "cheapest") "cheapest" "Reckoning.cheapest" s_Reckoning_cheapest
def d_Reckoning_told : He5.DefA := mkD (fun K => He.ma K (He.ga K "Reckoning") "told") "told" "Reckoning.told" s_Reckoning_told
def d_Reckoning_named : He5.DefA := mkD (fun K => He.ma K (He.ga K "Reckoning") "named") "named" "Reckoning.named" s_Reckoning_named
def d_first_apart : He5.DefA := mkD (fun K => He.ga K "first_apart") "first_apart" "first_apart" s_first_apart
def d_are_levels : He5.DefA := mkD (fun K => He.ga K "are_levels") "are_levels" "are_levels" s_are_levels
def d__is_level : He5.DefA := mkD (fun K => He.ga K "_is_level") "_is_level" "_is_level" s__is_level
def d_bound_beyond : He5.DefA := mkD (fun K => He.ga K "bound_beyond") "bound_beyond" "bound_beyond" s_bound_beyond
def d_bounded_prices : He5.DefA := mkD (fun K => He.ga K "bounded_prices") "bounded_prices" "bounded_prices" s_bounded_prices
def d_numbers_of : He5.DefA := mkD (fun K => He.ga K "numbers_of") "numbers_of" "numbers_of" s_numbers_of
def d_are_within : He5.DefA := mkD (fun K => He.ga K "are_within") "are_within" "are_within" s_are_within
def d_is_way : He5.DefA := mkD (fun K => He.ga K "is_way") "is_way" "is_way" s_is_way
def d_is_price : He5.DefA := mkD (fun K => He.ga K "is_price") "is_price" "is_price" s_is_price
def d_is_integer : He5.DefA := mkD (fun K => He.ga K "is_integer") "is_integer" "is_integer" s_is_integer
def d_check_way : He5.DefA := mkD (fun K => He.ga K "check_way") "check_way" "check_way" s_check_way
def d_check_yard : He5.DefA := mkD (fun K => He.ga K "check_yard") "check_yard" "check_yard" s_check_yard
def d_Yard_init : He5.DefA := mkD (fun K => He.ma K (He.ga K "Yard") "__init__") "__init__" "Yard.__init__" s_Yard_init
def d_Yard_len : He5.DefA := mkD (fun K => He.ma K (He.ga K "Yard") "__len__") "__len__" "Yard.__len__" s_Yard_len
def d_Yard_rows : He5.DefA := mkD (fun K => He.ma K (He.ga K "Yard") "rows") "rows" "Yard.rows" s_Yard_rows
def d_Yard_price_rows : He5.DefA := mkD (fun K => He.ma K (He.ga K "Yard") "price_rows") "price_rows" "Yard.price_rows" s_Yard_price_rows
def d_Yard_reckoning : He5.DefA := mkD (fun K => He.ma K (He.ga K "Yard") "reckoning") "reckoning" "Yard.reckoning" s_Yard_reckoning
def d__are_rows : He5.DefA := mkD (fun K => He.ga K "_are_rows") "_are_rows" "_are_rows" s__are_rows
def d__is_price_row : He5.DefA := mkD (fun K => He.ga K "_is_price_row") "_is_price_row" "_is_price_row" s__is_price_row
def d_tables : He5.DefA := mkD (fun K => He.ga K "tables") "tables" "tables" s_tables
def d_tower_cost : He5.DefA := mkD (fun K => He.ga K "tower_cost") "tower_cost" "tower_cost" s_tower_cost
def d_is_paper : He5.DefA := mkD (fun K => He.ga K "is_paper") "is_paper" "is_paper" s_is_paper
def d_are_within_lines_levels : He5.DefA := mkD (fun K => He.ga K "are_within_lines_levels") "_are_within_lines" "_are_within_lines" s_are_within_lines_levels
def d_told_cost : He5.DefA := mkD (fun K => He.ga K "told_cost") "told_cost" "told_cost" s_told_cost
def d_straight_ways : He5.DefA := mkD (fun K => He.ga K "straight_ways") "straight_ways" "straight_ways" s_straight_ways
def d__straight_ways : He5.DefA := mkD (fun K => He.ga K "_straight_ways") "_straight_ways" "_straight_ways" s__straight_ways
def d_is_arrangement : He5.DefA := mkD (fun K => He.ga K "is_arrangement") "is_arrangement" "is_arrangement" s_is_arrangement
def d_check_arrangement : He5.DefA := mkD (fun K => He.ga K "check_arrangement") "check_arrangement" "check_arrangement" s_check_arrangement
def d_check_both : He5.DefA := mkD (fun K => He.ga K "check_both") "check_both" "check_both" s_check_both
def d_to_towers : He5.DefA := mkD (fun K => He.ga K "to_towers") "to_towers" "to_towers" s_to_towers
def d_from_towers : He5.DefA := mkD (fun K => He.ga K "from_towers") "from_towers" "from_towers" s_from_towers
def d_least : He5.DefA := mkD (fun K => He.ga K "least") "least" "least" s_least
def d_largest_moving : He5.DefA := mkD (fun K => He.ga K "largest_moving") "largest_moving" "largest_moving" s_largest_moving
def d_paper : He5.DefA := mkD (fun K => He.ga K "paper") "paper" "paper" s_paper
def d_is_cost_paper : He5.DefA := mkD (fun K => He.ga K "is_cost_paper") "is_cost_paper" "is_cost_paper" s_is_cost_paper
def d_are_within_lines_costs : He5.DefA := mkD (fun K => He.ga K "are_within_lines_costs") "_are_within_lines" "_are_within_lines" s_are_within_lines_costs
def d__are_within_sums : He5.DefA := mkD (fun K => He.ga K "_are_within_sums") "_are_within_sums" "_are_within_sums" s__are_within_sums
def d_shown_cost : He5.DefA := mkD (fun K => He.ga K "shown_cost") "shown_cost" "shown_cost" s_shown_cost
def d__law_cell : He5.DefA := mkD (fun K => He.ga K "_law_cell") "_law_cell" "_law_cell" s__law_cell
def d__law_bag : He5.DefA := mkD (fun K => He.ga K "_law_bag") "_law_bag" "_law_bag" s__law_bag
def d__law_take : He5.DefA := mkD (fun K => He.ga K "_law_take") "_law_take" "_law_take" s__law_take
def d__law_rows : He5.DefA := mkD (fun K => He.ga K "_law_rows") "_law_rows" "_law_rows" s__law_rows
def d__law_word : He5.DefA := mkD (fun K => He.ga K "_law_word") "_law_word" "_law_word" s__law_word
def d__law_asked : He5.DefA := mkD (fun K => He.ga K "_law_asked") "_law_asked" "_law_asked" s__law_asked
def d__law_caught : He5.DefA := mkD (fun K => He.ga K "_law_caught") "_law_caught" "_law_caught" s__law_caught
def d__law_very_right : He5.DefA := mkD (fun K => He.ga K "_law_very_right") "_law_very_right" "_law_very_right" s__law_very_right
def d__law_right : He5.DefA := mkD (fun K => He.ga K "_law_right") "_law_right" "_law_right" s__law_right
def d_law : He5.DefA := mkD (fun K => He.ga K "law") "law" "law" s_law
def fn : List He5.DefA := [d_InvalidYard_init, d_InvalidArrangement_init, d_InvalidWay_init, d_InvalidPaper_init, d_both_lines, d_towers_above, d_to_towers_above, d__from_place, d_turned, d_from_each_tower, d_reckoning_of, d_without_bars, d_Reckoning_init, d_Reckoning_backwards, d_Reckoning_to_towers, d_Reckoning_from_towers, d_Reckoning_cheapest, d_Reckoning_told, d_Reckoning_named, d_first_apart, d_are_levels, d__is_level, d_bound_beyond, d_bounded_prices, d_numbers_of, d_are_within, d_is_way, d_is_price, d_is_integer, d_check_way, d_check_yard, d_Yard_init, d_Yard_len, d_Yard_rows, d_Yard_price_rows, d_Yard_reckoning, d__are_rows, d__is_price_row, d_tables, d_tower_cost, d_is_paper, d_are_within_lines_levels, d_told_cost, d_straight_ways, d__straight_ways, d_is_arrangement, d_check_arrangement, d_check_both, d_to_towers, d_from_towers, d_least, d_largest_moving, d_paper, d_is_cost_paper, d_are_within_lines_costs, d__are_within_sums, d_shown_cost, d__law_cell, d__law_bag, d__law_take, d__law_rows, d__law_word, d__law_asked, d__law_caught, d__law_very_right, d__law_right, d_law]
def fa : List He.Fa := [.glo "COLUMNS", .glo "CratesError", .glo "InvalidArrangement", .glo "InvalidPaper", .glo "InvalidWay", .glo "InvalidYard", .glo "PLACES", .glo "Reckoning", .glo "WAYS", .glo "Yard", .glo "_TURNS", .glo "_are_rows", .glo "_are_within_sums", .glo "_from_place", .glo "_is_level", .glo "_is_price_row", .glo "_law_asked", .glo "_law_bag", .glo "_law_caught", .glo "_law_cell", .glo "_law_right", .glo "_law_rows", .glo "_law_take", .glo "_law_very_right", .glo "_law_word", .glo "_straight_ways", .glo "are_levels", .glo "are_within", .glo "are_within_lines_costs", .glo "are_within_lines_levels", .glo "both_lines", .glo "bound_beyond", .glo "bounded_prices", .glo "check_arrangement", .glo "check_both", .glo "check_way", .glo "check_yard", .glo "first_apart", .glo "from_each_tower", .glo "from_towers", .glo "is_arrangement", .glo "is_cost_paper", .glo "is_integer", .glo "is_paper", .glo "is_price", .glo "is_way", .glo "largest_moving", .glo "law", .glo "least", .glo "numbers_of", .glo "paper", .glo "reckoning_of", .glo "shown_cost", .glo "straight_ways", .glo "tables", .glo "to_towers", .glo "to_towers_above", .glo "told_cost", .glo "tower_cost", .glo "towers_above", .glo "turned", .glo "without_bars", .int "MOST_CRATES" 60, .str "_PLACE_SIGNS" "abc", .free "all", .free "any", .free "bool", .free "dict", .free "enumerate", .free "int", .free "isinstance", .free "len", .free "list", .free "max", .free "min", .free "range", .free "repr", .free "str", .free "tuple", .free "zip", .mkr "Yard", .mkr "Reckoning", .meth "Reckoning" "__init__", .meth "Reckoning" "backwards", .meth "Reckoning" "to_towers", .meth "Reckoning" "from_towers", .meth "Reckoning" "cheapest", .meth "Reckoning" "told", .meth "Reckoning" "named", .meth "Yard" "__init__", .meth "Yard" "__len__", .meth "Yard" "rows", .meth "Yard" "price_rows", .meth "Yard" "reckoning"]
def ts : List He.Tab := [((fun K => He.ga K "COLUMNS"), columns.map (·.1)), ((fun K => He.ga K "_TURNS"), turnsT.map (·.1))]
def ex (K : PySem.W.Frag) : Bool := kfB K && sysB K && xFB "CratesError" excN K && krB K && colB K && tuB K && excB K "InvalidArrangement" "value" && excB K "InvalidPaper" "value" && excB K "InvalidWay" "value" && excB K "InvalidYard" "value"
abbrev AlM : Type := (He.AlD × List (Option (List (Option (Str × Int))))) × Bool
def as0 : List Nat := [3, 6, 4, 21, 31, 51, 70, 89, 108, 127, 146, 165, 168, 181, 188, 193, 200, 207, 214, 219, 224, 277, 286, 291, 296, 301, 308, 313, 318, 319, 320, 321, 328, 335, 342, 349, 356, 363, 370, 377, 486, 495, 500, 505, 510, 517, 524, 531, 536, 543, 550, 640, 555, 562, 567, 574, 581, 588, 595, 602]
def as1 : List Nat := [609, 616, 623, 628, 635, 645, 652, 659, 666, 673, 680, 685, 692, 699, 706, 711, 718, 0, 20, 30, 50, 69, 88, 107, 126, 145, 164, 169, 170, 171, 172, 173, 174, 180, 187, 192, 199, 206, 213, 218, 223, 276, 285, 290, 295, 300, 307, 312, 317, 327, 334, 341, 348, 355, 362, 369, 376, 485, 494, 499]
def as2 : List Nat := [504, 509, 516, 523, 530, 535, 542, 549, 639, 554, 561, 566, 573, 580, 587, 594, 601, 608, 615, 622, 627, 634, 644, 651, 658, 665, 672, 679, 684, 691, 698, 705, 710, 717, 15, 16, 17, 18, 19, 29, 32, 48, 49, 67, 68, 86, 87, 105, 106, 124, 125, 143, 144, 162, 163, 175, 176, 177, 178, 179]
def as3 : List Nat := [182, 183, 184, 185, 186, 189, 190, 191, 194, 195, 196, 197, 198, 201, 202, 203, 204, 205, 208, 209, 210, 211, 212, 215, 216, 217, 220, 221, 222, 238, 243, 250, 257, 262, 269, 274, 275, 278, 279, 282, 283, 284, 287, 288, 289, 292, 293, 294, 297, 298, 299, 302, 303, 304, 305, 306, 309, 310, 311, 314]
def as4 : List Nat := [315, 316, 322, 323, 324, 325, 326, 329, 330, 331, 332, 333, 336, 337, 338, 339, 340, 343, 344, 345, 346, 347, 350, 351, 352, 353, 354, 357, 358, 359, 360, 361, 364, 365, 366, 367, 368, 371, 372, 373, 374, 375, 389, 396, 406, 414, 421, 426, 431, 438, 445, 452, 459, 466, 471, 478, 483, 484, 487, 488]
def as5 : List Nat := [491, 492, 493, 496, 497, 498, 501, 502, 503, 506, 507, 508, 511, 512, 513, 514, 515, 518, 519, 520, 521, 522, 525, 526, 527, 528, 529, 532, 533, 534, 537, 538, 539, 540, 541, 544, 545, 546, 547, 548, 636, 637, 638, 551, 552, 553, 556, 557, 558, 559, 560, 563, 564, 565, 568, 569, 570, 571, 572, 575]
def as6 : List Nat := [576, 577, 578, 579, 582, 583, 584, 585, 586, 589, 590, 591, 592, 593, 596, 597, 598, 599, 600, 603, 604, 605, 606, 607, 610, 611, 612, 613, 614, 617, 618, 619, 620, 621, 624, 625, 626, 629, 630, 631, 632, 633, 641, 642, 643, 646, 647, 648, 649, 650, 653, 654, 655, 656, 657, 660, 661, 662, 663, 664]
def as7 : List Nat := [667, 668, 669, 670, 671, 674, 675, 676, 677, 678, 681, 682, 683, 686, 687, 688, 689, 690, 693, 694, 695, 696, 697, 700, 701, 702, 703, 704, 707, 708, 709, 712, 713, 714, 715, 716, 47, 66, 85, 104, 123, 142, 161, 237, 242, 249, 256, 261, 268, 273, 388, 394, 395, 404, 405, 413, 420, 425, 430, 437]
def as8 : List Nat := [444, 451, 458, 465, 470, 477, 482, 42, 43, 44, 45, 46, 61, 62, 63, 64, 65, 80, 81, 82, 83, 84, 99, 100, 101, 102, 103, 118, 119, 120, 121, 122, 137, 138, 139, 140, 141, 156, 157, 158, 159, 160, 232, 233, 234, 235, 236, 239, 240, 241, 244, 245, 246, 247, 248, 251, 252, 253, 254, 255]
def as9 : List Nat := [258, 259, 260, 263, 264, 265, 266, 267, 270, 271, 272, 385, 386, 387, 393, 397, 403, 407, 408, 409, 410, 411, 412, 415, 416, 417, 418, 419, 422, 423, 424, 427, 428, 429, 432, 433, 434, 435, 436, 439, 440, 441, 442, 443, 446, 447, 448, 449, 450, 453, 454, 455, 456, 457, 460, 461, 462, 463, 464, 467]
def as10 : List Nat := [468, 469, 472, 473, 474, 475, 476, 479, 480, 481, 390, 391, 392, 398, 399, 400, 401, 402, 2, 1]
def asL : List Nat := as0 ++ (as1 ++ (as2 ++ (as3 ++ (as4 ++ (as5 ++ (as6 ++ (as7 ++ (as8 ++ (as9 ++ (as10))))))))))
def asM (_ : Addr → Option Obj) (_ : Nat) : List Addr := asL
def tabsM (ts : List He.Tab) (K : PySem.W.Frag) : List (Option (List (Option (Str × Int)))) := ts.map fun t => He.dicW K (t.1 K)
def keysM (ts : List He.Tab) (w : World) : List (Option (List (Option (Str × Int)))) := ts.map fun t => some (He.keysIn w.params t.2)
def obsM (n : Nat) (fa : List He.Fa) (fn : List He5.DefA) (ts : List He.Tab) (ex : PySem.W.Frag → Bool) (g : Addr → Option Obj) : AlM := ((He5.obsA fa fn (He.frG g (asM g n)), tabsM ts (He.frG g (asM g n))), ex (He.frG g (asM g n)))
def hookM (n : Nat) (fa : List He.Fa) (fn : List He5.DefA) (ts : List He.Tab) (ex : PySem.W.Frag → Bool) : PySem.W.Hook where
  α := AlM
  obs := fun s => obsM n fa fn ts ex s.heap.get?
  val := fun w => ((He5.valA fn, keysM ts w), true)
  says := fun w h => ∃ K : PySem.W.Frag, K.In h ∧ (He5.SaysA fa fn K ∧ tabsM ts K = keysM ts w) ∧ ex K = true
  of := fun _ _ e => ⟨_, He.frG_in, ⟨congrArg (fun z : AlM => z.1.1) e, congrArg (fun z : AlM => z.1.2) e⟩, congrArg (fun z : AlM => z.2) e⟩
  keeps := fun _ _ _ held kept => held.elim fun K z => ⟨K, z.1.keeps kept, z.2⟩
theorem obsM_eq {n : Nat} {fa : List He.Fa} {fn : List He5.DefA} {ts : List He.Tab} {ex : PySem.W.Frag → Bool} {g : Addr → Option Obj} {s : Shared} (h : ∀ a, g a = s.heap.get? a) : obsM n fa fn ts ex g = (hookM n fa fn ts ex).obs s := by
  obtain rfl : g = s.heap.get? := funext h
  rfl
theorem tabM {ts : List He.Tab} {w : World} {K : PySem.W.Frag} (c : tabsM ts K = keysM ts w) (i : Nat) {t : He.Tab} (h : ts[i]? = some t := by rfl) : ∃ es n, KDict K w (t.1 K) es n := by
  have e : (tabsM ts K)[i]? = (keysM ts w)[i]? := by rw [c]
  unfold tabsM keysM at e
  rw [List.getElem?_map, List.getElem?_map, h] at e
  exact He.dicW_ok (Option.some.inj e)
abbrev RowR : PySem.W.OpenRow := PySem.W.OpenLaw.row PySem.Challenge.rw_cratetowers_k26_costs_refused
abbrev hk : PySem.W.Hook := hookM 6 fa fn ts ex
def ob (s : PySem.W.SharedT) : AlM := obsM 6 fa fn ts ex (HandSHeadRun.getT s)
theorem ob_eq (s : PySem.W.SharedT) : ob s = hk.obs s.abs := obsM_eq (HandSHeadRun.getT_eq s)
def loose0 : List Str := [PySem.Str.ofString "_wall", PySem.Str.ofString "CratesError", PySem.Str.ofString "InvalidYard", PySem.Str.ofString "InvalidText", PySem.Str.ofString "InvalidArrangement", PySem.Str.ofString "InvalidWay", PySem.Str.ofString "InvalidCrate", PySem.Str.ofString "InvalidCount", PySem.Str.ofString "InvalidPaper", PySem.Str.ofString "_TURNS", PySem.Str.ofString "both_lines", PySem.Str.ofString "towers_above", PySem.Str.ofString "to_towers_above", PySem.Str.ofString "_from_place", PySem.Str.ofString "turned", PySem.Str.ofString "from_each_tower", PySem.Str.ofString "reckoning_of", PySem.Str.ofString "without_bars", PySem.Str.ofString "Reckoning", PySem.Str.ofString "first_apart", PySem.Str.ofString "are_levels", PySem.Str.ofString "_is_level", PySem.Str.ofString "bound_beyond", PySem.Str.ofString "bounded_prices", PySem.Str.ofString "numbers_of", PySem.Str.ofString "are_within", PySem.Str.ofString "PLACES", PySem.Str.ofString "WAYS", PySem.Str.ofString "COLUMNS", PySem.Str.ofString "MOST_CRATES"]
def loose1 : List Str := [PySem.Str.ofString "_DIGITS", PySem.Str.ofString "_BAR", PySem.Str.ofString "is_way", PySem.Str.ofString "is_price", PySem.Str.ofString "is_integer", PySem.Str.ofString "is_integer_within", PySem.Str.ofString "is_numeral", PySem.Str.ofString "check_way", PySem.Str.ofString "check_yard", PySem.Str.ofString "check_crate", PySem.Str.ofString "Yard", PySem.Str.ofString "_are_rows", PySem.Str.ofString "_is_price_row", PySem.Str.ofString "_is_yard_text", PySem.Str.ofString "_is_line", PySem.Str.ofString "_is_price_text", PySem.Str.ofString "_price_text", PySem.Str.ofString "_price_of", PySem.Str.ofString "tables", PySem.Str.ofString "tower_cost", PySem.Str.ofString "is_paper", PySem.Str.ofString "_are_within_lines", PySem.Str.ofString "are_within_lines_levels", PySem.Str.ofString "told_cost", PySem.Str.ofString "straight_ways", PySem.Str.ofString "_straight_ways", PySem.Str.ofString "_PLACE_SIGNS", PySem.Str.ofString "is_arrangement", PySem.Str.ofString "check_arrangement", PySem.Str.ofString "check_both"]
def loose2 : List Str := [PySem.Str.ofString "to_towers", PySem.Str.ofString "from_towers", PySem.Str.ofString "least", PySem.Str.ofString "largest_moving", PySem.Str.ofString "paper", PySem.Str.ofString "is_cost_paper", PySem.Str.ofString "_are_within_lines", PySem.Str.ofString "are_within_lines_costs", PySem.Str.ofString "_are_within_sums", PySem.Str.ofString "shown_cost", PySem.Str.ofString "_law_cell", PySem.Str.ofString "_law_bag", PySem.Str.ofString "_law_take", PySem.Str.ofString "_law_rows", PySem.Str.ofString "_law_word", PySem.Str.ofString "_law_asked", PySem.Str.ofString "_law_caught", PySem.Str.ofString "_law_very_right", PySem.Str.ofString "_law_right"]
def loose : List Str := loose0 ++ loose1 ++ loose2
theorem run_f (w : World) : HandSHeadRun.RunEq RowR (PySem.W.view RowR.prog [87]) hk ob 20000 loose (w.withFollow "special-get-raises" false) := by
  intro os
  kernel_rfl
theorem run_t (w : World) : HandSHeadRun.RunEq RowR (PySem.W.view RowR.prog [87]) hk ob 20000 loose (w.withFollow "special-get-raises" true) := by
  intro os
  kernel_rfl
theorem run (w : World) : HandSHeadRun.RunEq RowR (PySem.W.view RowR.prog [87]) hk ob 20000 loose w :=
  PySem.W.byRow2 "special-get-raises" (P := fun w => HandSHeadRun.RunEq RowR (PySem.W.view RowR.prog [87]) hk ob 20000 loose w) run_f run_t w
end U
namespace U
open PySem PySem.Spec PyProof.Rows L2

/-! ### yards -/
def pV : Option Int → V
  | none => .non
  | some i => .int i
def SqA (K : PySem.W.Frag) (H : Hp) (p : Addr) (xs : List V) : Prop := SqL K H p xs ∨ SqT K H p xs
def okP : Option Int → Bool
  | none => true
  | some i => decide (0 < i)
/-- at y a yard of these rows -/
def Yd (K : PySem.W.Frag) (H : Hp) (y : Addr) (rows : List (List (Option Int))) : Prop :=
  ∃ (dx t : Addr) (as : List Addr), (∃ rk, H y = some (.ins (He.ga K "Yard") dx [("_rows", .ref t), ("_reckoning", rk)])) ∧ SqT K H t (as.map V.ref) ∧ as.length = rows.length ∧ rows.length ≤ 60 ∧ 1 ≤ rows.length ∧
    (∀ (i : Nat) (a : Addr) (r : List (Option Int)), as[i]? = some a → rows[i]? = some r → SqT K H a (r.map pV)) ∧ ∀ r ∈ rows, r.length = 6 ∧ r.all okP = true
section
variable {K : PySem.W.Frag} {H H' : Hp}
theorem SqA.same {p : Addr} {xs : List V} (e : Same H H') (h : SqA K H p xs) : SqA K H' p xs := h.imp (Same.seq e) (Same.sqT e)
theorem Yd.same {y : Addr} {rows : List (List (Option Int))} (e : Same H H') (h : Yd K H y rows) : Yd K H' y rows := by
  obtain ⟨dx, t, as, ⟨rk, h1⟩, h2, h3, h4, h5, h6, h7⟩ := h
  exact ⟨dx, t, as, ⟨rk, e _ _ h1⟩, Same.sqT e h2, h3, h4, h5, fun i a r q1 q2 => Same.sqT e (h6 i a r q1 q2), h7⟩
theorem Is.same {x : V} {a : Ty} (e : Same H H') (h : Is K H x a) : Is K H' x a := by
  have key : ∀ t, TyX K H x t → TyX K H' x t := by
    intro t h
    cases h with
    | base b =>
      refine .base ?_
      cases b with
      | non => exact .non
      | bl b => exact .bl b
      | int i => exact .int i
      | str z => exact .str z
      | flt z => exact .flt z
      | lst q => exact .lst (e _ _ q)
      | frz q => exact .frz (e _ _ q)
      | tup q => exact .tup (e _ _ q)
      | dK q => exact .dK (e _ _ q)
      | dT q => exact .dT (e _ _ q)
      | ins q a b c d f => exact .ins (e _ _ q) a b c d f
    | byt b => exact .byt b
    | set q => exact .set (e _ _ q)
    | kList q c => exact .kList q c
    | kTuple q c => exact .kTuple q c
    | kDict q c => exact .kDict q c
    | fTuple q => exact .fTuple (e _ _ q)
    | fDict q => exact .fDict (e _ _ q)
  exact key _ h
end
/-- an exception c with the value v, from any later heap -/
def Rz (K : PySem.W.Frag) (c f : Str) (v : V) (H : Hp) (E : XK) : Prop := ∀ d H', Same H H' → H' d = none → E (.ref (He.ga K c)) (some d) (upd H' d (.xd [(f, v)]))
theorem Rz.same {K : PySem.W.Frag} {c f : Str} {v : V} {H H' : Hp} {E : XK} (e : Same H H') (h : Rz K c f v H E) : Rz K c f v H' E := fun d H2 s n => h d H2 (e.trans s) n
/-- raise C(x), x the i-th name -/
theorem rse_var {K : PySem.W.Frag} {c f : Str} {E : XK} {i : Nat} {v : V} {σ : L2.St} {H : Hp} {D : Ends} (hv : σ[i]? = some (some v)) (h : Rz K c f v H E) : tRse K c f E (tCons (tVar i) tNil) D σ H :=
  ⟨v, hv, rse_of fun d hd => h d H (Same.refl H) hd⟩

/-! ### what the small judges answer -/
def isPl : V → Bool
  | .str z => decide (z = "a") || decide (z = "b") || decide (z = "c")
  | _ => false
def wayL : List Str := ["ab", "ac", "ba", "bc", "ca", "cb"]
def isWy : V → Bool
  | .str z => decide (z ∈ wayL)
  | _ => false
def isI : V → Bool
  | .int _ => true
  | _ => false
def isIn (x : V) (l h : Int) : Bool := match x with
  | .int i => decide (l ≤ i) && decide (i ≤ h)
  | _ => false
def isPr : V → Bool
  | .int i => decide (0 < i)
  | _ => false
def isPB : V → Bool
  | .non => true
  | .int i => decide (0 < i)
  | _ => false
def sp_is_way (K : PySem.W.Frag) : Sp := sp1 fun x H Q _ => ∃ a, Is K H x a ∧ Q (.bl (isWy x)) H
def sp_is_integer (K : PySem.W.Frag) : Sp := sp1 fun x H Q _ => ∃ a, Is K H x a ∧ Q (.bl (isI x)) H
def sp_is_price (K : PySem.W.Frag) : Sp := sp1 fun x H Q _ => ∃ a, Is K H x a ∧ Q (.bl (isPr x)) H
def sp_check_way (K : PySem.W.Frag) : Sp := sp1 fun x H Q E => ∃ a, Is K H x a ∧ (isWy x = true → Q .non H) ∧ (isWy x = false → Rz K "InvalidWay" "value" x H E)
def sp_check_yard (K : PySem.W.Frag) : Sp := sp1 fun x H Q E => ∃ a, Is K H x a ∧ (a = .yard → Q .non H) ∧ (a ≠ .yard → Rz K "InvalidYard" "value" x H E)
def sp_Yard_len (K : PySem.W.Frag) : Sp := sp1 fun x H Q _ => ∃ y rows, x = .ref y ∧ Yd K H y rows ∧ Q (.int (rows.length : Int)) H
/-- the tuple of a yard's rows -/
def Ys (K : PySem.W.Frag) (H : Hp) (t : Addr) (rows : List (List (Option Int))) : Prop := ∃ as : List Addr, SqT K H t (as.map V.ref) ∧ as.length = rows.length ∧ ∀ (i : Nat) (a : Addr) (r : List (Option Int)), as[i]? = some a → rows[i]? = some r → SqT K H a (r.map pV)
def sp_Yard_price_rows (K : PySem.W.Frag) : Sp := sp1 fun x H Q _ => ∃ y rows, x = .ref y ∧ Yd K H y rows ∧ ∀ t, Ys K H t rows → Q (.ref t) H
def t_is_way (K : PySem.W.Frag) (E : XK) : TS := (tRet (tAndV (tCB (uIsi K) (tCons (tVar 0) (tCons (tC (.ty "str")) tNil))) (tOp (uIn K false) (tVar 0) (tC (.ref (He.ga K "WAYS"))))))
def t_is_integer (K : PySem.W.Frag) (E : XK) : TS := (tRet (tAndV (tCB (uIsi K) (tCons (tVar 0) (tCons (tC (.ty "int")) tNil))) (tNotV (tCB (uIsi K) (tCons (tVar 0) (tCons (tC (.ty "bool")) tNil))))))
def t_is_price (K : PySem.W.Frag) (E : XK) : TS := (tRet (tAndV (tFn (sp_is_integer K) E (tCons (tVar 0) tNil)) (tOp uGt (tVar 0) (tC (.int 0)))))
def t_Yard_price_rows (K : PySem.W.Frag) (E : XK) : TS := (tRet (tFld K (tVar 0) "_rows"))
def t_check_way (K : PySem.W.Frag) (E : XK) : TS := (tIfS (tNot (tB (tFn (sp_is_way K) E (tCons (tVar 0) tNil)))) (tRse K "InvalidWay" "value" E (tCons (tVar 0) tNil)) tNext)
def t_check_yard (K : PySem.W.Frag) (E : XK) : TS := (tIfS (tNot (tB (tCB (uIsi K) (tCons (tVar 0) (tCons (tC (.ref (He.ga K "Yard"))) tNil))))) (tRse K "InvalidYard" "value" E (tCons (tVar 0) tNil)) tNext)
def t_Yard_len (K : PySem.W.Frag) (E : XK) : TS := (tRet (tCB (uLen K) (tCons (tFld K (tVar 0) "_rows") tNil)))
section
variable {K : PySem.W.Frag} (F : KF K) {vs : List V} {H : Hp} {Q : VK} {E : XK}
theorem isi_ty {x : V} {a b : Ty} {T : String} (F : KF K) (hT : b.v K = .type T) (h : Is K H x a) (q : Q (.bl (a.sub b)) H) : uIsi K [x, .ty T] H Q := by
  have k := F.kit a b
  rw [hT] at k
  exact ⟨a.v K, a.sub b, h, k, q⟩
theorem Is.of_str {z : Str} {a : Ty} (h : Is K H (.str z) a) : a = .str := by
  have key : ∀ t, TyX K H (.str z) t → t = a.v K → a = .str := by
    intro t h e
    cases h with
    | base b =>
      cases b
      cases a <;> first | rfl | (injection e with e; exact absurd e (by decide)) | cases e
  exact key _ h rfl
theorem Is.of_int {z : Int} {a : Ty} (h : Is K H (.int z) a) : a = .int := by
  have key : ∀ t, TyX K H (.int z) t → t = a.v K → a = .int := by
    intro t h e
    cases h with
    | base b =>
      cases b
      cases a <;> first | rfl | (injection e with e; exact absurd e (by decide)) | cases e
  exact key _ h rfl
theorem Is.of_bl {z : Bool} {a : Ty} (h : Is K H (.bl z) a) : a = .bl := by
  have key : ∀ t, TyX K H (.bl z) t → t = a.v K → a = .bl := by
    intro t h e
    cases h with
    | base b =>
      cases b
      cases a <;> first | rfl | (injection e with e; exact absurd e (by decide)) | cases e
  exact key _ h rfl
/-! one step of a reading -/
local macro_rules | `(tactic| walk_at "w") => `(tactic| simp only [tRet, tAndV, tOrV, tNotV, tCB, tCons, tVar, tNil, tC, tOp, tSeq, tAsg, gName, tIfS, tDrop, tFn, tTup, tLst, tNext, tB, tTest, tNot, tAnd, tOr, tIf, tChain, tUn, rU, tFld,
  L2.start, List.map_cons, List.map_nil, List.length_cons, List.length_nil, List.replicate_succ, List.replicate_zero, List.append_nil, List.nil_append, List.cons_append, List.singleton_append, Nat.sub_self, Nat.zero_add, Nat.reduceAdd, Nat.reduceSub,
  List.getElem?_cons_zero, List.getElem?_cons_succ, List.set_cons_zero, List.set_cons_succ, Option.some.injEq, exists_eq_left, exists_eq_left', V.int.injEq, V.bl.injEq, V.str.injEq, V.ref.injEq,
  uAdd, uSub, uMul, uDiv, uMod, uPow, uCmp, uLt, uLe, uGt, uGe, uIs, uNis, sp1, sp2, sp3, sp4])

theorem in_ways {z : Str} : inV (.str z) [.str "ab", .str "ac", .str "ba", .str "bc", .str "ca", .str "cb"] = isWy (.str z) := by
  show (wayL.map V.str).any (fun y => eqV y (.str z)) = decide (z ∈ wayL)
  rw [List.any_map, Bool.eq_iff_iff, List.any_eq_true, decide_eq_true_iff]
  constructor
  · rintro ⟨w, h1, h2⟩
    have : w = z := of_decide_eq_true h2
    exact this ▸ h1
  · intro h
    exact ⟨z, h, decide_eq_true rfl⟩
include F in
theorem read_is_way (h : sp_is_way K vs H Q E) : t_is_way K E { nx := fun _ H' => Q .non H', rt := Q } (start ["value"] vs) H := by
  match vs, h with
  | [x], ⟨a, ha, q⟩ =>
    unfold t_is_way
    walk_at "w"
    refine isi_ty (b := .str) F rfl ha ?_
    walk_at "w"
    by_cases e : a = .str
    · subst e
      obtain ⟨z, rfl⟩ := ha.str_inv
      simp only [Ty.sub, decide_true, Bool.true_or, if_true]
      exact ⟨_, _, rfl, .inr (F.ways H), rfl, rfl, by simpa [in_ways] using q⟩
    · rw [if_neg (by simp [Ty.sub, e])]
      have : isWy x = false := by cases x <;> first | rfl | exact absurd ha.of_str e
      rwa [this] at q
theorem isI_of {x : V} {a : Ty} (ha : Is K H x a) : isI x = (a.sub .int && !a.sub .bl) := by
  cases x with
  | int i => rw [ha.of_int]; rfl
  | bl b => rw [ha.of_bl]; rfl
  | _ =>
    have h1 : a ≠ .int := by
      rintro rfl
      obtain ⟨i, e⟩ := ha.int_inv
      cases e
    have h2 : a ≠ .bl := by
      rintro rfl
      obtain ⟨i, e⟩ := ha.bl_inv
      cases e
    simp [isI, Ty.sub, h1, h2]
include F in
theorem read_is_integer (h : sp_is_integer K vs H Q E) : t_is_integer K E { nx := fun _ H' => Q .non H', rt := Q } (start ["value"] vs) H := by
  match vs, h with
  | [x], ⟨a, ha, q⟩ =>
    unfold t_is_integer
    rw [isI_of ha] at q
    walk_at "w"
    refine isi_ty (b := .int) F rfl ha ?_
    walk_at "w"
    cases e : a.sub .int with
    | false => simpa [e] using q
    | true =>
      simp only [if_true]
      refine isi_ty (b := .bl) F rfl ha ?_
      simpa [e, TruV] using q
include F in
theorem read_is_price (h : sp_is_price K vs H Q E) : t_is_price K E { nx := fun _ H' => Q .non H', rt := Q } (start ["value"] vs) H := by
  match vs, h with
  | [x], ⟨a, ha, q⟩ =>
    unfold t_is_price sp_is_integer
    walk_at "w"
    refine ⟨a, ha, ?_⟩
    cases x with
    | int i => simpa [isI, isPr] using q
    | _ => simpa [isI, isPr] using q
include F in
theorem read_check_way (h : sp_check_way K vs H Q E) : t_check_way K E { nx := fun _ H' => Q .non H', rt := Q } (start ["way"] vs) H := by
  match vs, h with
  | [x], ⟨a, ha, q1, q2⟩ =>
    unfold t_check_way sp_is_way
    walk_at "w"
    refine ⟨a, ha, ?_⟩
    cases e : isWy x with
    | true => exact q1 e
    | false => exact rse_var (K := K) (c := "InvalidWay") (f := "value") (E := E) (σ := [some x]) (i := 0) (D := { nx := fun _ H' => Q .non H', rt := Q }) rfl (q2 e)
include F in
theorem read_check_yard (h : sp_check_yard K vs H Q E) : t_check_yard K E { nx := fun _ H' => Q .non H', rt := Q } (start ["yard"] vs) H := by
  match vs, h with
  | [x], ⟨a, ha, q1, q2⟩ =>
    unfold t_check_yard
    walk_at "w"
    refine .inl ⟨a.v K, a.sub .yard, ha, F.kit a .yard, _, rfl, ?_⟩
    cases e : a.sub .yard with
    | true => exact q1 (by cases a <;> first | rfl | cases e)
    | false =>
      refine rse_var (K := K) (c := "InvalidYard") (f := "value") (E := E) (σ := [some x]) (i := 0) (D := { nx := fun _ H' => Q .non H', rt := Q }) rfl (q2 ?_)
      rintro rfl
      cases e
include F in
theorem read_Yard_price_rows (h : sp_Yard_price_rows K vs H Q E) : t_Yard_price_rows K E { nx := fun _ H' => Q .non H', rt := Q } (start ["self"] vs) H := by
  match vs, h with
  | [_], ⟨y, rows, rfl, ⟨dx, t, as, ⟨rk, h1⟩, h2, h3, h4, h5, h6, h7⟩, q⟩ =>
    unfold t_Yard_price_rows
    walk_at "w"
    exact ⟨y, _, _, _, .ref t, rfl, h1, F.cl, F.na, rfl, q t ⟨as, h2, h3, h6⟩⟩
include F in
theorem read_Yard_len (h : sp_Yard_len K vs H Q E) : t_Yard_len K E { nx := fun _ H' => Q .non H', rt := Q } (start ["self"] vs) H := by
  match vs, h with
  | [_], ⟨y, rows, rfl, ⟨dx, t, as, ⟨rk, h1⟩, h2, h3, h4, h5, h6⟩, q⟩ =>
    unfold t_Yard_len
    walk_at "w"
    refine ⟨y, _, _, _, .ref t, rfl, h1, F.cl, F.na, rfl, ?_⟩
    refine ⟨_, .inr h2, ?_⟩
    rw [List.length_map, h3]
    exact q
end
end U
namespace U
open PySem PySem.Spec PyProof.Rows L2

/-! ### heaps that keep all but one -/
def Off (D : Addr) (H H' : Hp) : Prop := ∀ b o, b ≠ D → H b = some o → H' b = some o
section
variable {K : PySem.W.Frag} {H H' H2 : Hp} {D a p : Addr} {xs l : List V} {o : HO}
theorem Off.refl : Off D H H := fun _ _ _ h => h
theorem Same.off (h : Same H H') : Off D H H' := fun b o _ e => h b o e
theorem Off.trans (h : Off D H H') (g : Off D H' H2) : Off D H H2 := fun b o n e => g b o n (h b o n e)
theorem off_upd : Off D H (upd H D o) := fun b u n e => by rw [upd_ne n]; exact e
theorem Off.same (h : Off D H H') (n : H D = none) : Same H H' := fun b o e => h b o (ne_of_none e n) e
theorem Off.sqT (h : Off D H H') (hD : H D = some (.lst l)) (q : SqT K H a xs) : SqT K H' a xs := by
  rcases q with (q | ⟨o, q⟩) | q
  · exact .inl (.inl (h _ _ (by rintro rfl; rw [hD] at q; cases q) q))
  · exact .inl (.inr ⟨o, h _ _ (by rintro rfl; rw [hD] at q; cases q) q⟩)
  · exact .inr q
theorem Off.yd {y : Addr} {rows : List (List (Option Int))} (e : Off D H H') (hD : H D = some (.lst l)) (h : Yd K H y rows) : Yd K H' y rows := by
  obtain ⟨dx, t, as, ⟨rk, h1⟩, h2, h3, h4, h5, h6, h7⟩ := h
  exact ⟨dx, t, as, ⟨rk, e _ _ (by rintro rfl; rw [hD] at h1; cases h1) h1⟩, e.sqT hD h2, h3, h4, h5, fun i a r q1 q2 => e.sqT hD (h6 i a r q1 q2), h7⟩
end
/-! ### what is walked without a change of the heap -/
structure Plain (J : It) (xs : List V) (G : Hp → Prop) : Prop where
  go : ∀ i H, G H → i < xs.length → J.go i H
  yld : ∀ i H x H', G H → J.yld i H x H' → H' = H ∧ (i < xs.length → xs[i]? = some x)
  stop : ∀ i H, G H → i = xs.length → J.stop i H
section
variable {K : PySem.W.Frag} {a : Addr} {xs : List V}
theorem plain_L : Plain (Itl K a) xs fun H => SqL K H a xs :=
  ⟨fun i H h lt => ⟨xs, xs[i], h, List.getElem?_eq_getElem lt⟩, fun i H x H' h ⟨e, q⟩ => ⟨e, fun _ => q xs h⟩, fun i H h e => ⟨xs, h, Nat.le_of_eq e.symm⟩⟩
theorem plain_T : Plain (Itt K a) xs fun H => SqT K H a xs :=
  ⟨fun i H h lt => ⟨xs, xs[i], h, List.getElem?_eq_getElem lt⟩, fun i H x H' h ⟨e, q⟩ => ⟨e, fun _ => q xs h⟩, fun i H h e => ⟨xs, h, Nat.le_of_eq e.symm⟩⟩
theorem strL_len (z : Str) : (strL z).length = z.cps.size := by simp [strL]
theorem plain_S {z : Str} : Plain (Its z) (strL z) fun _ => True :=
  ⟨fun i H h lt => by rw [strL_len] at lt; exact lt, fun i H x H' h ⟨e, c, q1, q2⟩ => ⟨e, fun _ => by
    subst q2
    unfold strL
    rw [List.getElem?_map, Array.getElem?_toList, q1]
    rfl⟩, fun i H h e => by rw [strL_len] at e; exact Nat.le_of_eq e.symm⟩
def intsL (lo : Int) (n : Nat) : List V := (List.range n).map fun (i : Nat) => V.int (lo + (i : Int))
theorem plain_R {lo : Int} {n : Nat} : Plain (Itr lo n) (intsL lo n) fun _ => True :=
  ⟨fun i H h lt => by
    have lt : i < n := by simpa [intsL] using lt
    exact lt, fun i H x H' h ⟨e, q2⟩ => ⟨e, fun lt => by
    subst q2
    have lt : i < n := by simpa [intsL] using lt
    simp [intsL, lt]⟩, fun i H h e => by
    have : i = n := by simpa [intsL] using e
    exact Nat.le_of_eq this.symm⟩
/-- the ends of a loop's body: N behind it -/
abbrev turnE (D : Ends) (N : L2.St → Hp → Prop) : Ends := { D with nx := N, ct := N, bk := D.nx }
theorem for_plain {J : It} {G : Hp → Prop} (P : Plain J xs G) {wi : TI} {g : TG} {tb : TS} {D : Ends} {σ : L2.St} {H : Hp} (hw : ∀ R : It → Hp → Prop, R J H → wi σ H R) (Pv : Nat → L2.St → Hp → Prop) (h0 : Pv 0 σ H) (hG : ∀ i σ H, Pv i σ H → G H)
    (hs : ∀ i x τ H, xs[i]? = some x → Pv i τ H → g x τ H fun ρ H2 => tb (turnE D (Pv (i + 1))) ρ H2) (hd : ∀ τ H, Pv xs.length τ H → D.nx τ H) : tFor wi g tb D σ H := by
  refine hw _ ?_
  have start0 : xs.length = xs.length - 0 ∧ 0 ≤ xs.length ∧ Pv 0 σ H := ⟨rfl, Nat.zero_le _, h0⟩
  refine ⟨fun i m τ H => m = xs.length - i ∧ i ≤ xs.length ∧ Pv i τ H, ⟨_, start0⟩, ?_⟩
  rintro i m σ H ⟨rfl, hi, p⟩
  have q := hG i σ H p
  by_cases hlt : i < xs.length
  · refine .inr ⟨P.go i H q hlt, Pv (i + 1), fun σ' H' p' => ⟨xs.length - (i + 1), by omega, rfl, hlt, p'⟩, fun x H' y => ?_⟩
    obtain ⟨rfl, hx⟩ := P.yld i H x H' q y
    exact hs i x σ H' (hx hlt) p
  · have atEnd : i = xs.length := Nat.le_antisymm hi (Nat.le_of_not_lt hlt)
    exact .inl ⟨P.stop i H q atEnd, hd σ H (atEnd ▸ p)⟩
theorem it_plain {J : It} {G : Hp → Prop} (P : Plain J xs G) {B : V → Hp → (Hp → Prop) → Prop} {H0 : Hp} {fin : Hp → Prop} (Pv : Nat → Hp → Prop) (h0 : Pv 0 H0) (hG : ∀ i H, Pv i H → G H)
    (hs : ∀ i x H, xs[i]? = some x → Pv i H → B x H (Pv (i + 1))) (hd : ∀ H, Pv xs.length H → fin H) : Laps J H0 fin B := by
  have start0 : xs.length = xs.length - 0 ∧ 0 ≤ xs.length ∧ Pv 0 H0 := ⟨rfl, Nat.zero_le _, h0⟩
  refine ⟨fun i m H => m = xs.length - i ∧ i ≤ xs.length ∧ Pv i H, ⟨_, start0⟩, ?_⟩
  rintro i m H ⟨rfl, hi, p⟩
  have q := hG i H p
  by_cases hlt : i < xs.length
  · refine .inr ⟨P.go i H q hlt, Pv (i + 1), fun H' p' => ⟨xs.length - (i + 1), by omega, rfl, hlt, p'⟩, fun x H' y => ?_⟩
    obtain ⟨rfl, hx⟩ := P.yld i H x H' q y
    exact hs i x H' (hx hlt) p
  · have atEnd : i = xs.length := Nat.le_antisymm hi (Nat.le_of_not_lt hlt)
    exact .inl ⟨P.stop i H q atEnd, hd H (atEnd ▸ p)⟩
theorem lc_plain {J : It} {G : Hp → Prop} (P : Plain J xs G) {g : TG} {tt : TT} {te : TE} {vs : List Nat} {σ : L2.St} {H1 : Hp} {D : Addr} {Qd : Hp → Prop} (Pv : Nat → Hp → Prop) (h0 : Pv 0 (upd H1 D (.lst []))) (hG : ∀ i H, Pv i H → G H)
    (hs : ∀ i x H, xs[i]? = some x → Pv i H → lcT g tt te vs σ D (Pv (i + 1)) x H) (hd : ∀ H, Pv xs.length H → Qd H) : LcB J g tt te vs σ H1 D Qd :=
  it_plain P Pv h0 hG hs hd
/-- [te for name j in ..], whose turns only make new things -/
theorem lc_grow {J : It} {G : Hp → Prop} (P : Plain J xs G) {te : TE} {j : Nat} {σ : L2.St} {H1 : Hp} {D : Addr} {Qd : Hp → Prop} (R : List V → Hp → Prop) (hD : H1 D = none) (hlen : xs.length ≤ sizeLine)
    (hG : ∀ H, Same H1 H → G H) (h0 : ∀ H, Same H1 H → R [] H) (hup : ∀ acc l H H', H D = some (.lst l) → Off D H H' → R acc H → R acc H')
    (hs : ∀ i x acc H (Q : VK), xs[i]? = some x → Same H1 H → acc.length = i → R acc H → (∀ y H4, Same H H4 → R (acc ++ [y]) H4 → Q y H4) → te (σ.set j (some x)) H Q)
    (hd : ∀ acc H, acc.length = xs.length → Same H1 H → H D = some (.lst acc) → R acc H → Qd H) : LcB J (gName j) tYes te [j] σ H1 D Qd := by
  refine lc_plain P (fun i H => ∃ acc, acc.length = i ∧ H D = some (.lst acc) ∧ Same H1 H ∧ R acc H) ⟨[], rfl, upd_same, same_new hD, h0 _ (same_new hD)⟩ (fun i H ⟨_, _, _, s, _⟩ => hG H s) ?_ (fun H ⟨acc, h1, h2, h3, h4⟩ => hd acc H h1 h3 h2 h4)
  rintro i x H hx ⟨acc, h1, h2, h3, h4⟩
  show wipe _ [j] = wipe σ [j] ∧ _
  refine ⟨by simp only [wipe, List.set_set], ?_⟩
  show te ((σ.set j none).set j (some x)) H _
  rw [List.set_set]
  have lt : i < xs.length := by
    rcases Nat.lt_or_ge i xs.length with q | q
    · exact q
    · rw [List.getElem?_eq_none q] at hx; cases hx
  refine hs i x acc H _ hx h3 h1 h4 fun y H4 s r => ⟨acc, s _ _ h2, by omega, acc ++ [y], by simp [h1], upd_same, ?_, ?_⟩
  · exact (Off.trans (Same.off (h3.trans s)) off_upd).same hD
  · exact hup _ acc _ _ (s _ _ h2) off_upd r
theorem for_rng1 {ta : TA} {g : TG} {tb : TS} {D : Ends} {σ : L2.St} {H : Hp} {n : Nat} (h : ∀ R : List V → Hp → Prop, R [.int n] H → ta σ H R) (hn : n ≤ 1000000000) (Pv : Nat → L2.St → Hp → Prop) (h0 : Pv 0 σ H)
    (hs : ∀ (i : Nat) σ H, i < n → Pv i σ H → g (.int i) σ H fun σ2 H2 => tb (turnE D (Pv (i + 1))) σ2 H2) (hd : ∀ σ H, Pv n σ H → D.nx σ H) : tFor (iRng1 ta) g tb D σ H := by
  have e : (intsL 0 n).length = n := by simp [intsL]
  have hw : ∀ R : It → Hp → Prop, R (Itr 0 n) H → iRng1 ta σ H R := fun R r => h _ ⟨_, rfl, by omega, by omega, by rw [Int.toNat_natCast]; exact r⟩
  refine for_plain plain_R hw Pv h0 (fun _ _ _ _ => trivial) (fun i x σ H hx p => ?_) (by rw [e]; exact hd)
  have lt : i < n := e ▸ (List.getElem?_eq_some_iff.mp hx).1
  have : x = .int i := by
    simp [intsL, lt] at hx
    exact hx.symm
  subst this
  exact hs i σ H lt p
end
end U
namespace U
open PySem PySem.Spec PyProof.Rows L2

theorem take_snoc {α : Type} (f : α → V) {acc : List V} {bs : List α} {i : Nat} {c : α} (ha : acc = (bs.take acc.length).map f) (hl : acc.length = i) (hc : bs[i]? = some c) : acc ++ [f c] = (bs.take (acc ++ [f c]).length).map f := by
  subst hl
  rw [List.length_append, List.length_singleton, List.take_succ, List.map_append, ← ha, hc]
  rfl
/-! ### rows of prices -/
def RowB (K : PySem.W.Frag) (H : Hp) (x : V) (b : Bool) : Prop := (∃ a, Is K H x a ∧ a ≠ .lst ∧ a ≠ .tup ∧ b = false) ∨
  ∃ p xs, x = .ref p ∧ SqA K H p xs ∧ (∀ v ∈ xs, ∃ a, Is K H v a) ∧ b = (decide (xs.length = 6) && xs.all isPB)
def RowsB (K : PySem.W.Frag) (H : Hp) (x : V) (b : Bool) : Prop := (∃ a, Is K H x a ∧ a ≠ .lst ∧ a ≠ .tup ∧ b = false) ∨
  ∃ (p : Addr) (xs : List V) (bs : List Bool), x = .ref p ∧ SqA K H p xs ∧ bs.length = xs.length ∧ (∀ (i : Nat) (v : V) (c : Bool), xs[i]? = some v → bs[i]? = some c → RowB K H v c) ∧ b = (decide (1 ≤ xs.length) && (decide (xs.length ≤ 60) && bs.all id))
section
variable {K : PySem.W.Frag} {H H' : Hp} {x : V} {b : Bool}
theorem RowB.same (e : Same H H') (h : RowB K H x b) : RowB K H' x b := by
  rcases h with ⟨a, h, r⟩ | ⟨p, xs, r, h, g, q⟩
  · exact .inl ⟨a, h.same e, r⟩
  · exact .inr ⟨p, xs, r, h.same e, fun v m => by
      obtain ⟨a, z⟩ := g v m
      exact ⟨a, z.same e⟩, q⟩
theorem RowsB.same (e : Same H H') (h : RowsB K H x b) : RowsB K H' x b := by
  rcases h with ⟨a, h, r⟩ | ⟨p, xs, bs, r, h, g, z, q⟩
  · exact .inl ⟨a, h.same e, r⟩
  · exact .inr ⟨p, xs, bs, r, h.same e, g, fun i v c h1 h2 => (z i v c h1 h2).same e, q⟩
theorem SqA.kind {p : Addr} {xs : List V} (h : SqA K H p xs) : ∃ a, Is K H (.ref p) a ∧ (a.sub .lst || a.sub .tup) = true := by
  rcases h with h | h
  · exact ⟨.lst, is_sqL h, rfl⟩
  · exact ⟨.tup, is_sqT h, rfl⟩
theorem isi_seq (F : KF K) {a : Ty} {p : Addr} {Q : VK} (hp : H p = some (.tup [.ty "list", .ty "tuple"])) (h : Is K H x a) (q : Q (.bl (a.sub .lst || a.sub .tup)) H) : uIsi K [x, .ref p] H Q := by
  refine .inr ⟨_, [.type "list", .type "tuple"], a.v K, _, hp, .cons (.ty _) (.cons (.ty _) .nil), h, ?_, q⟩
  show PySem.W.kitAny K (a.v K) [Ty.v K .lst, Ty.v K .tup] = _
  unfold PySem.W.kitAny
  rw [F.kit a .lst]
  cases a.sub .lst with
  | true => rfl
  | false =>
    show PySem.W.kitAny K (a.v K) [Ty.v K .tup] = _
    unfold PySem.W.kitAny
    rw [F.kit a .tup]
    cases a.sub .tup <;> rfl
theorem uLen_seq {p : Addr} {xs : List V} {Q : VK} (h : SqA K H p xs) (q : Q (.int xs.length) H) : uLen K [.ref p] H Q := ⟨xs, h, q⟩
theorem uEq_int {i j : Int} {Q : VK} : uEq K (.int i) (.int j) H Q = Q (.bl (decide (i = j))) H := rfl
theorem uEq_str {i j : Str} {Q : VK} : uEq K (.str i) (.str j) H Q = Q (.bl (decide (i = j))) H := rfl
theorem uNe_int {i j : Int} {Q : VK} : uNe K (.int i) (.int j) H Q = Q (.bl (!decide (i = j))) H := rfl
theorem uNe_str {i j : Str} {Q : VK} : uNe K (.str i) (.str j) H Q = Q (.bl (!decide (i = j))) H := rfl
theorem uAdd_int {i j : Int} {Q : VK} : uAdd (.int i) (.int j) H Q = Q (.int (i + j)) H := rfl
theorem uSub_int {i j : Int} {Q : VK} : uSub (.int i) (.int j) H Q = Q (.int (i - j)) H := rfl
theorem uMul_int {i j : Int} {Q : VK} : uMul (.int i) (.int j) H Q = (CMul i j ∧ Q (.int (i * j)) H) := rfl
theorem uDiv_int {i j : Int} {Q : VK} : uDiv (.int i) (.int j) H Q = (CDivW i j ∧ Q (.int (i / j)) H) := rfl
theorem uMod_int {i j : Int} {Q : VK} : uMod (.int i) (.int j) H Q = (0 < j ∧ Q (.int (i % j)) H) := rfl
theorem uPow_int {i j : Int} {Q : VK} : uPow (.int i) (.int j) H Q = (CPow i j ∧ Q (.int (i ^ j.toNat)) H) := rfl
theorem uLt_int {i j : Int} {Q : VK} : uLt (.int i) (.int j) H Q = Q (.bl (decide (i < j))) H := rfl
theorem uLe_int {i j : Int} {Q : VK} : uLe (.int i) (.int j) H Q = Q (.bl (decide (i ≤ j))) H := rfl
theorem uGt_int {i j : Int} {Q : VK} : uGt (.int i) (.int j) H Q = Q (.bl (decide (j < i))) H := rfl
theorem uGe_int {i j : Int} {Q : VK} : uGe (.int i) (.int j) H Q = Q (.bl (decide (j ≤ i))) H := rfl
theorem uAdd_str {i j : Str} {Q : VK} : uAdd (.str i) (.str j) H Q = (i.length + j.length ≤ sizeLine ∧ Q (.str (i ++ j)) H) := rfl
theorem uMul_str {i : Str} {n : Int} {Q : VK} : uMul (.str i) (.int n) H Q = (0 ≤ n ∧ n ≤ 1000 ∧ i.length ≤ 10000 ∧ Q (.str (Txt.mul i n)) H) := rfl
theorem uIs_non {Q : VK} : uIs x .non H Q = Q (.bl (decide (x = .non))) H := rfl
theorem uNis_non {Q : VK} : uNis x .non H Q = Q (.bl (!decide (x = .non))) H := rfl
theorem uIs_bl {a c : Bool} {Q : VK} : uIs (.bl a) (.bl c) H Q = Q (.bl (decide (a = c))) H := rfl
theorem uNis_bl {a c : Bool} {Q : VK} : uNis (.bl a) (.bl c) H Q = Q (.bl (!decide (a = c))) H := rfl
theorem uSl_str {z : Str} {lo hi : Option Int} {Q : VK} : uSl K (.str z) lo hi H Q = (z.length ≤ sizeLine ∧ Q (.str (cutS z lo hi)) H) := rfl
theorem uLen_str {z : Str} {Q : VK} : uLen K [.str z] H Q = (z.length ≤ sizeLine ∧ Q (.int z.length) H) := rfl
theorem seq_ {a b : TS} {D : Ends} {σ : L2.St} {H : Hp} (h : a { D with nx := b D } σ H) : tSeq a b D σ H := h
theorem tVar_eq {i : Nat} {σ : L2.St} {v : V} (h : σ[i]? = some (some v)) (Q : VK) : tVar i σ H Q = Q v H := by
  unfold tVar
  simp [h]
theorem tLc_str {t : TE} {σ : L2.St} {g : TG} {tt : TT} {te : TE} {vs : List Nat} {Q : VK} {z : Str} (ht : ∀ Q, t σ H Q = Q (.str z) H) (hc : ∀ D, H D = none → LcB (Its z) g tt te vs σ H D (Q (.ref D))) : tLc (iStr t) g tt te vs σ H Q := by
  show t σ H _
  rw [ht]
  exact ⟨z, rfl, hc⟩
theorem tLc_seq {t : TE} {σ : L2.St} {g : TG} {tt : TT} {te : TE} {vs : List Nat} {Q : VK} {p : Addr} {xs : List V} (h : SqA K H p xs) (ht : ∀ Q, t σ H Q = Q (.ref p) H)
    (hc : ∀ (J : It) (G : Hp → Prop), Plain J xs G → (∀ H', Same H H' → G H') → ∀ D, H D = none → LcB J g tt te vs σ H D (Q (.ref D))) : tLc (iSeq K t) g tt te vs σ H Q := by
  rcases h with h | h
  · refine .inl ?_
    show t σ H _
    rw [ht]
    exact ⟨p, rfl, ⟨xs, h⟩, hc _ _ plain_L fun H' e => Same.seq e h⟩
  · refine .inr ?_
    show t σ H _
    rw [ht]
    exact ⟨p, rfl, ⟨xs, h⟩, hc _ _ plain_T fun H' e => Same.sqT e h⟩
end
def sp__is_price_row (K : PySem.W.Frag) : Sp := sp1 fun x H Q _ => ∃ b, RowB K H x b ∧ ∀ H', Same H H' → Q (.bl b) H'
def sp__are_rows (K : PySem.W.Frag) : Sp := sp1 fun x H Q _ => ∃ b, RowsB K H x b ∧ ∀ H', Same H H' → Q (.bl b) H'
def t__is_price_row (K : PySem.W.Frag) (E : XK) : TS := (tRet (tAndV (tCB (uIsi K) (tCons (tVar 0) (tCons (tTup (tCons (tC (.ty "list")) (tCons (tC (.ty "tuple")) tNil))) tNil))) (tAndV (tOp (uEq K) (tCB (uLen K) (tCons (tVar 0) tNil)) (tCB (uLen K) (tCons (tC (.ref (He.ga K "WAYS"))) tNil))) (tCB (rAll K) (tCons (tLc (iSeq K (tVar 0)) (gName 1) tYes (tOrV (tOp uIs (tVar 1) (tC .non)) (tFn (sp_is_price K) E0 (tCons (tVar 1) tNil))) [1]) tNil)))))
def t__are_rows (K : PySem.W.Frag) (E : XK) : TS := (tRet (tAndV (tCB (uIsi K) (tCons (tVar 0) (tCons (tTup (tCons (tC (.ty "list")) (tCons (tC (.ty "tuple")) tNil))) tNil))) (tAndV (tChain uLe uLe (tC (.int 1)) (tCB (uLen K) (tCons (tVar 0) tNil)) (tC (.int 60))) (tCB (rAll K) (tCons (tLc (iSeq K (tVar 0)) (gName 1) tYes (tFn (sp__is_price_row K) E0 (tCons (tVar 1) tNil)) [1]) tNil)))))
section
variable {K : PySem.W.Frag} (F : KF K) {vs : List V} {H : Hp} {Q : VK} {E : XK}
local macro_rules | `(tactic| walk_at "w") => `(tactic| try simp only [turnE, lcT, Snoc, tRet, tRetN, tAndV, tOrV, tNotV, tCB, tCons, tVar, tNil, tC, tOp, tSeq, tAsg, gName, gSub, tIfS, tDrop, tFn, tTup, tLst, tNext, tB, tTest, tNot, tAnd, tOr, tIf, tChain, tUn, rU, tFld, tPart, tNoPart, L2.tSl, tBM, tPar, tPar3, tTruth, tDNewK,
  L2.start, List.map_cons, List.map_nil, List.length_cons, List.length_nil, List.replicate_succ, List.replicate_zero, List.append_nil, List.nil_append, List.cons_append, List.singleton_append, Nat.sub_self, Nat.zero_add, Nat.reduceAdd, Nat.reduceSub,
  List.getElem?_cons_zero, List.getElem?_cons_succ, List.set_cons_zero, List.set_cons_succ, Option.some.injEq, exists_eq_left, exists_eq_left', V.int.injEq, V.bl.injEq, V.str.injEq, V.ref.injEq,
  uAdd_int, uAdd_str, uSub_int, uMul_int, uMul_str, uDiv_int, uMod_int, uPow_int, uLt_int, uLe_int, uGt_int, uGe_int, uIs_non, uNis_non, uIs_bl, uNis_bl, sp1, sp2, sp3, sp4, uEq_int, uEq_str, uNe_int, uNe_str, uSl_str, uLen_str, decide_eq_true_eq])
local macro_rules | `(tactic| walk_at "1") => `(tactic| try simp only [turnE, lcT, Snoc, tRet, tRetN, tAndV, tOrV, tNotV, tCB, tCons, tVar, tNil, tC, tOp, tAsg, gName, gSub, tIfS, tDrop, tFn, tTup, tLst, tNext, tB, tTest, tNot, tAnd, tOr, tIf, tChain, tUn, rU, tFld, tPart, tNoPart, L2.tSl, tBM, tPar, tPar3, tTruth, tDNewK,
  L2.start, List.map_cons, List.map_nil, List.length_cons, List.length_nil, List.replicate_succ, List.replicate_zero, List.append_nil, List.nil_append, List.cons_append, List.singleton_append, Nat.sub_self, Nat.zero_add, Nat.reduceAdd, Nat.reduceSub,
  List.getElem?_cons_zero, List.getElem?_cons_succ, List.set_cons_zero, List.set_cons_succ, Option.some.injEq, exists_eq_left, exists_eq_left', V.int.injEq, V.bl.injEq, V.str.injEq, V.ref.injEq,
  uAdd_int, uAdd_str, uSub_int, uMul_int, uMul_str, uDiv_int, uMod_int, uPow_int, uLt_int, uLe_int, uGt_int, uGe_int, uIs_non, uNis_non, uIs_bl, uNis_bl, sp1, sp2, sp3, sp4, uEq_int, uEq_str, uNe_int, uNe_str, uSl_str, uLen_str, decide_eq_true_eq])
local macro_rules | `(tactic| walk_at "s") => `(tactic| ((try dsimp only [turnE]); with_reducible refine seq_ ?_))

include F in
theorem read__is_price_row (h : sp__is_price_row K vs H Q E) : t__is_price_row K E { nx := fun _ H' => Q .non H', rt := Q } (start ["value", "price"] vs) H := by
  match vs, h with
  | [x], ⟨b, hb, q⟩ =>
    unfold t__is_price_row
    walk_at "w"
    refine ⟨by decide, fun p hp => ?_⟩
    have e1 : Same H (upd H p (.tup [.ty "list", .ty "tuple"])) := same_new hp
    have hb1 := hb.same e1
    have hp1 : upd H p (.tup [.ty "list", .ty "tuple"]) p = some (.tup [.ty "list", .ty "tuple"]) := upd_same
    generalize upd H p (.tup [.ty "list", .ty "tuple"]) = H1 at *
    rcases hb1 with ⟨a, h1, h2, h3, rfl⟩ | ⟨r, xs, rfl, h1, h2, rfl⟩
    · refine isi_seq F hp1 h1 ?_
      have : (a.sub .lst || a.sub .tup) = false := by cases a <;> first | rfl | exact absurd rfl h2 | exact absurd rfl h3
      rw [this]
      exact ⟨_, rfl, q _ e1⟩
    · obtain ⟨a, ka, ks⟩ := h1.kind
      refine isi_seq F hp1 ka ?_
      rw [ks]
      refine ⟨_, rfl, ?_⟩
      rw [if_pos rfl]
      refine uLen_seq h1 (uLen_seq (.inr (F.ways H1)) ⟨_, rfl, ?_⟩)
      by_cases e : xs.length = 6
      · rw [decide_eq_true (by simp [e]), if_pos rfl]
        refine tLc_seq (p := r) h1 (tVar_eq rfl) fun J G P hG D hD => ?_
        refine lc_grow P (fun acc _ => acc = ((xs.map isPB).take acc.length).map V.bl) hD (by rw [e]; decide) hG (fun _ _ => rfl) (fun _ _ _ _ _ _ h => h) ?_ ?_
        · rintro i y acc H2 Q' hy s hl ha k
          obtain ⟨a, z⟩ := h2 y (List.mem_of_getElem? hy)
          have k := k (.bl (isPB y)) H2 (Same.refl _) (take_snoc V.bl ha hl (by simp [hy]))
          unfold sp_is_price
          walk_at "w"
          cases y with
          | non => simpa [isPB] using k
          | _ =>
            simp only [reduceCtorEq, decide_false, Bool.false_eq_true, if_false]
            refine ⟨a, z.same s, ?_⟩
            simpa [isPB, isPr] using k
        · rintro acc H2 hl s hD2 ha
          have hm : acc = (xs.map isPB).map V.bl := by
            rw [ha, hl, List.take_of_length_le (by simp)]
          refine ⟨D, xs.map isPB, rfl, .inl (.inl (by rw [hD2, hm])), ?_⟩
          have := q H2 (e1.trans s)
          simpa [e, List.all_map, Function.comp_def] using this
      · rw [decide_eq_false (by simp; omega)]
        simpa [e] using q _ e1
include F in
theorem read__are_rows (h : sp__are_rows K vs H Q E) : t__are_rows K E { nx := fun _ H' => Q .non H', rt := Q } (start ["value", "row"] vs) H := by
  match vs, h with
  | [x], ⟨b, hb, q⟩ =>
    unfold t__are_rows
    walk_at "w"
    refine ⟨by decide, fun p hp => ?_⟩
    have e1 : Same H (upd H p (.tup [.ty "list", .ty "tuple"])) := same_new hp
    have hb1 := hb.same e1
    have hp1 : upd H p (.tup [.ty "list", .ty "tuple"]) p = some (.tup [.ty "list", .ty "tuple"]) := upd_same
    generalize upd H p (.tup [.ty "list", .ty "tuple"]) = H1 at *
    rcases hb1 with ⟨a, h1, h2, h3, rfl⟩ | ⟨r, xs, bs, rfl, h1, hbl, h2, rfl⟩
    · refine isi_seq F hp1 h1 ?_
      have : (a.sub .lst || a.sub .tup) = false := by cases a <;> first | rfl | exact absurd rfl h2 | exact absurd rfl h3
      rw [this]
      exact ⟨_, rfl, q _ e1⟩
    · obtain ⟨a, ka, ks⟩ := h1.kind
      refine isi_seq F hp1 ka ?_
      rw [ks]
      refine ⟨_, rfl, ?_⟩
      rw [if_pos rfl]
      refine uLen_seq h1 ?_
      walk_at "w"
      by_cases l1 : 1 ≤ xs.length
      · rw [if_pos (show (1 : Int) ≤ xs.length by omega)]
        by_cases l2 : xs.length ≤ 60
        · rw [if_pos (show (xs.length : Int) ≤ 60 by omega)]
          refine tLc_seq (p := r) h1 (tVar_eq rfl) fun J G P hG D hD => ?_
          refine lc_grow P (fun acc _ => acc = (bs.take acc.length).map V.bl) hD (Nat.le_trans l2 (by decide)) hG (fun _ _ => rfl) (fun _ _ _ _ _ _ h => h) ?_ ?_
          · rintro i y acc H2 Q' hy s hl ha k
            have lt : i < xs.length := (List.getElem?_eq_some_iff.mp hy).1
            have hc : bs[i]? = some bs[i] := List.getElem?_eq_getElem (by omega)
            have z := (h2 i y _ hy hc).same s
            unfold sp__is_price_row
            walk_at "w"
            refine ⟨_, z, fun H3 s3 => k _ _ s3 ?_⟩
            exact take_snoc V.bl ha hl hc
          · rintro acc H2 hl s hD2 ha
            have hm : acc = bs.map V.bl := by rw [ha, hl, List.take_of_length_le (by omega)]
            refine ⟨D, bs, rfl, .inl (.inl (by rw [hD2, hm])), ?_⟩
            have := q H2 (e1.trans s)
            simpa [l1, l2] using this
        · rw [if_neg (show ¬ (xs.length : Int) ≤ 60 by omega)]
          simpa [l2] using q _ e1
      · rw [if_neg (show ¬ (1 : Int) ≤ xs.length by omega)]
        simpa [l1] using q _ e1
end
/-! ### making a yard -/
def RowV (K : PySem.W.Frag) (H : Hp) (x : V) (rows : List (List (Option Int))) : Prop := ∃ (p : Addr) (xs : List V), x = .ref p ∧ SqA K H p xs ∧ xs.length = rows.length ∧
  ∀ (i : Nat) (v : V) (r : List (Option Int)), xs[i]? = some v → rows[i]? = some r → ∃ q, v = .ref q ∧ SqA K H q (r.map pV)
def RowsOk (rows : List (List (Option Int))) : Prop := 1 ≤ rows.length ∧ rows.length ≤ 60 ∧ ∀ r ∈ rows, r.length = 6 ∧ r.all okP = true
theorem isPB_pV (p : Option Int) : isPB (pV p) = okP p := by cases p <;> rfl
theorem is_pV {K : PySem.W.Frag} {H : Hp} (p : Option Int) : ∃ a, Is K H (pV p) a := by
  cases p with
  | none => exact ⟨_, is_non⟩
  | some i => exact ⟨_, is_int i⟩
section
variable {K : PySem.W.Frag} {H H' : Hp} {x : V} {rows : List (List (Option Int))}
theorem RowV.same (e : Same H H') (h : RowV K H x rows) : RowV K H' x rows := by
  obtain ⟨p, xs, h1, h2, h3, h4⟩ := h
  refine ⟨p, xs, h1, h2.same e, h3, fun i v r g1 g2 => ?_⟩
  obtain ⟨q, z1, z2⟩ := h4 i v r g1 g2
  exact ⟨q, z1, z2.same e⟩
theorem RowV.rowsB (h : RowV K H x rows) (o : RowsOk rows) : RowsB K H x true := by
  obtain ⟨p, xs, h1, h2, h3, h4⟩ := h
  obtain ⟨o1, o2, o3⟩ := o
  refine .inr ⟨p, xs, xs.map fun _ => true, h1, h2, by simp, fun i v c g1 g2 => ?_, by simp; omega⟩
  rw [List.getElem?_map, g1] at g2
  cases g2
  have lt : i < rows.length := h3 ▸ (List.getElem?_eq_some_iff.mp g1).1
  obtain ⟨q, rfl, z⟩ := h4 i v rows[i] g1 (List.getElem?_eq_getElem lt)
  obtain ⟨k1, k2⟩ := o3 rows[i] (List.getElem_mem lt)
  refine .inr ⟨q, _, rfl, z, fun v m => ?_, ?_⟩
  · obtain ⟨p, _, rfl⟩ := List.mem_map.mp m
    exact is_pV p
  · rw [List.length_map, k1, List.all_map]
    have : (isPB ∘ pV) = okP := funext isPB_pV
    rw [this, k2]
    rfl
theorem Off.sqT_ins {a D : Addr} {xs : List V} {C dx : Addr} {fs : List (Str × V)} (h : Off D H H') (hD : H D = some (.ins C dx fs)) (q : SqT K H a xs) : SqT K H' a xs := by
  rcases q with (q | ⟨o, q⟩) | q
  · exact .inl (.inl (h _ _ (by rintro rfl; rw [hD] at q; cases q) q))
  · exact .inl (.inr ⟨o, h _ _ (by rintro rfl; rw [hD] at q; cases q) q⟩)
  · exact .inr q
end
def sp_Yard_init (K : PySem.W.Frag) : Sp := sp2 fun s x H Q E => ∃ a dx, s = .ref a ∧ H a = some (.ins (He.ga K "Yard") dx []) ∧
  ((∃ rows, RowV K H x rows ∧ RowsOk rows ∧ ∀ H', Off a H H' → Yd K H' a rows → (∃ dx t, H' a = some (.ins (He.ga K "Yard") dx [("_rows", .ref t), ("_reckoning", .non)])) → Q .non H') ∨ (RowsB K H x false ∧ Rz K "InvalidYard" "value" x H E))
def t_Yard_init (K : PySem.W.Frag) (E : XK) : TS := (tSeq (tIfS (tNot (tB (tFn (sp__are_rows K) E (tCons (tVar 1) tNil)))) (tRse K "InvalidYard" "value" E (tCons (tVar 1) tNil)) tNext) (tSeq (sFld K (tVar 0) (tCB (uTup K) (tCons (tLc (iSeq K (tVar 1)) (gName 2) tYes (tCB (uTup K) (tCons (tVar 2) tNil)) [2]) tNil)) "_rows") (sFld K (tVar 0) (tC .non) "_reckoning")))
section
variable {K : PySem.W.Frag} (F : KF K) {vs : List V} {H : Hp} {Q : VK} {E : XK}
local macro_rules | `(tactic| walk_at "w") => `(tactic| try simp only [turnE, lcT, Snoc, tRet, tRetN, tAndV, tOrV, tNotV, tCB, tCons, tVar, tNil, tC, tOp, tSeq, tAsg, gName, gSub, tIfS, tDrop, tFn, tTup, tLst, tNext, tB, tTest, tNot, tAnd, tOr, tIf, tChain, tUn, rU, tFld, tPart, tNoPart, L2.tSl, tBM, tPar, tPar3, tTruth, tDNewK,
  L2.start, List.map_cons, List.map_nil, List.length_cons, List.length_nil, List.replicate_succ, List.replicate_zero, List.append_nil, List.nil_append, List.cons_append, List.singleton_append, Nat.sub_self, Nat.zero_add, Nat.reduceAdd, Nat.reduceSub,
  List.getElem?_cons_zero, List.getElem?_cons_succ, List.set_cons_zero, List.set_cons_succ, Option.some.injEq, exists_eq_left, exists_eq_left', V.int.injEq, V.bl.injEq, V.str.injEq, V.ref.injEq,
  uAdd_int, uAdd_str, uSub_int, uMul_int, uMul_str, uDiv_int, uMod_int, uPow_int, uLt_int, uLe_int, uGt_int, uGe_int, uIs_non, uNis_non, uIs_bl, uNis_bl, sp1, sp2, sp3, sp4, uEq_int, uEq_str, uNe_int, uNe_str, uSl_str, uLen_str, decide_eq_true_eq])
local macro_rules | `(tactic| walk_at "1") => `(tactic| try simp only [turnE, lcT, Snoc, tRet, tRetN, tAndV, tOrV, tNotV, tCB, tCons, tVar, tNil, tC, tOp, tAsg, gName, gSub, tIfS, tDrop, tFn, tTup, tLst, tNext, tB, tTest, tNot, tAnd, tOr, tIf, tChain, tUn, rU, tFld, tPart, tNoPart, L2.tSl, tBM, tPar, tPar3, tTruth, tDNewK,
  L2.start, List.map_cons, List.map_nil, List.length_cons, List.length_nil, List.replicate_succ, List.replicate_zero, List.append_nil, List.nil_append, List.cons_append, List.singleton_append, Nat.sub_self, Nat.zero_add, Nat.reduceAdd, Nat.reduceSub,
  List.getElem?_cons_zero, List.getElem?_cons_succ, List.set_cons_zero, List.set_cons_succ, Option.some.injEq, exists_eq_left, exists_eq_left', V.int.injEq, V.bl.injEq, V.str.injEq, V.ref.injEq,
  uAdd_int, uAdd_str, uSub_int, uMul_int, uMul_str, uDiv_int, uMod_int, uPow_int, uLt_int, uLe_int, uGt_int, uGe_int, uIs_non, uNis_non, uIs_bl, uNis_bl, sp1, sp2, sp3, sp4, uEq_int, uEq_str, uNe_int, uNe_str, uSl_str, uLen_str, decide_eq_true_eq])
local macro_rules | `(tactic| walk_at "s") => `(tactic| ((try dsimp only [turnE]); with_reducible refine seq_ ?_))

include F in
theorem read_Yard_init (h : sp_Yard_init K vs H Q E) : t_Yard_init K E { nx := fun _ H' => Q .non H', rt := Q } (start ["self", "rows", "row"] vs) H := by
  match vs, h with
  | [_, x], ⟨a, dx, rfl, ha, h⟩ =>
    unfold t_Yard_init sp__are_rows
    walk_at "w"
    rcases h with ⟨rows, hr, ho, q⟩ | ⟨hb, rz⟩
    · refine ⟨true, hr.rowsB ho, fun H1 s1 => ?_⟩
      simp only [Bool.not_true, Bool.false_eq_true, if_false, sFld, tCB]
      obtain ⟨p, xs, rfl, h2, h3, h4⟩ := hr.same s1
      refine tLc_seq (p := p) h2 (tVar_eq rfl) fun J G P hG D hD => ?_
      refine lc_grow P (fun acc H => ∃ as : List Addr, acc = as.map V.ref ∧ as.length ≤ rows.length ∧ ∀ (i : Nat) (a : Addr) (r : List (Option Int)), as[i]? = some a → rows[i]? = some r → SqT K H a (r.map pV)) hD
        (by rw [h3]; exact Nat.le_trans ho.2.1 (by decide)) hG (fun _ _ => ⟨[], rfl, Nat.zero_le _, fun i a r z => by simp at z⟩) ?_ ?_ ?_
      · rintro acc l H2 H3 hl o ⟨as, e1, e2, e3⟩
        exact ⟨as, e1, e2, fun i a r z1 z2 => o.sqT hl (e3 i a r z1 z2)⟩
      · rintro i y acc H2 Q' hy s hl ⟨as, e1, e2, e3⟩ k
        have lt : i < rows.length := h3 ▸ (List.getElem?_eq_some_iff.mp hy).1
        obtain ⟨b, rfl, z⟩ := h4 i y rows[i] hy (List.getElem?_eq_getElem lt)
        have z := z.same s
        walk_at "w"
        have hl2 : as.length = i := by rw [e1, List.length_map] at hl; exact hl
        have step : ∀ (c : Addr) (H3 : Hp), Same H2 H3 → SqT K H3 c (rows[i].map pV) → Q' (.ref c) H3 := fun c H3 s3 hc => by
          refine k _ _ s3 ⟨as ++ [c], by simp [e1], by simp; omega, fun j d r z1 z2 => ?_⟩
          by_cases e : j = i
          · subst e
            rw [List.getElem?_append_right (by omega), hl2] at z1
            simp at z1
            subst z1
            rw [List.getElem?_eq_getElem lt] at z2
            cases z2
            exact hc
          · have : j < as.length := by
              have := (List.getElem?_eq_some_iff.mp z1).1
              simp at this
              omega
            rw [List.getElem?_append_left this] at z1
            exact Same.sqT s3 (e3 j d r z1 z2)
        rcases z with z | z
        · exact ⟨_, .inl ⟨z, fun l hl => step l _ (same_new hl) (.inl (.inl upd_same))⟩⟩
        · exact ⟨_, .inr ⟨z, step b _ (Same.refl _) z⟩⟩
      · rintro acc H2 hl s hD2 ⟨as, e1, e2, e3⟩
        have hla : as.length = rows.length := by rw [e1, List.length_map] at hl; omega
        refine ⟨acc, .inl ⟨.inl (.inl hD2), fun t ht => ?_⟩⟩
        have st : Same H2 (upd H2 t (.tup acc)) := same_new ht
        have hat : upd H2 t (.tup acc) a = some (.ins (He.ga K "Yard") dx []) := st _ _ (s _ _ (s1 _ _ ha))
        have htt : upd H2 t (.tup acc) t = some (.tup acc) := upd_same
        have sall : Same H (upd H2 t (.tup acc)) := (s1.trans s).trans st
        have e3' : ∀ (i : Nat) (a : Addr) (r : List (Option Int)), as[i]? = some a → rows[i]? = some r → SqT K (upd H2 t (.tup acc)) a (r.map pV) := fun i a r z1 z2 => Same.sqT st (e3 i a r z1 z2)
        generalize upd H2 t (.tup acc) = H4 at *
        refine ⟨.ref a, rfl, a, _, dx, [], rfl, hat, F.cl, F.na, by simp, ?_⟩
        refine ⟨.ref a, rfl, a, _, dx, _, rfl, upd_same, F.cl, F.na2, by simp [putF], ?_⟩
        have of : Off a H4 (upd (upd H4 a (.ins (He.ga K "Yard") dx (putF "_rows" (.ref t) []))) a (.ins (He.ga K "Yard") dx (putF "_reckoning" .non (putF "_rows" (.ref t) [])))) := Off.trans off_upd off_upd
        refine q _ (Off.trans (Same.off sall) of) ⟨dx, t, as, ⟨_, upd_same⟩, of.sqT_ins hat (.inl (.inl (by rw [htt, e1]))), hla, ho.2.1, ho.1, fun i b r z1 z2 => of.sqT_ins hat (e3' i b r z1 z2), ho.2.2⟩ ⟨dx, t, upd_same⟩
    · refine ⟨false, hb, fun H1 s1 => ?_⟩
      simp only [if_true, Bool.not_false]
      exact rse_var (K := K) (c := "InvalidYard") (f := "value") (E := E) (i := 1) rfl (rz.same s1)
end
end U
namespace U
open PySem PySem.Spec PyProof.Rows L2

/-! ### arrangements as lists of digits -/
def pl (d : Nat) : Str := ⟨#[97 + d]⟩
def wd (ds : List Nat) : Str := ⟨(ds.map (97 + ·)).toArray⟩
def D3 (ds : List Nat) : Prop := ∀ d ∈ ds, d < 3
theorem pl_a : pl 0 = "a" := by decide
theorem pl_b : pl 1 = "b" := by decide
theorem pl_c : pl 2 = "c" := by decide
theorem strL_wd (ds : List Nat) : strL (wd ds) = ds.map fun d => V.str (pl d) := by
  simp [strL, wd, pl]
theorem wd_size (ds : List Nat) : (wd ds).cps.size = ds.length := by simp [wd]
theorem wd_length (ds : List Nat) : (wd ds).length = ds.length := wd_size ds
theorem isPl_pl {d : Nat} (h : d < 3) : isPl (.str (pl d)) = true := by
  match d, h with
  | 0, _ => decide
  | 1, _ => decide
  | 2, _ => decide
theorem isPl_inv {x : V} (h : isPl x = true) : ∃ d, d < 3 ∧ x = .str (pl d) := by
  cases x with
  | str z =>
    simp only [isPl, Bool.or_eq_true, decide_eq_true_eq] at h
    rcases h with (h | h) | h
    · exact ⟨0, by decide, by rw [h, pl_a]⟩
    · exact ⟨1, by decide, by rw [h, pl_b]⟩
    · exact ⟨2, by decide, by rw [h, pl_c]⟩
  | _ => cases h
/-- is a value an arrangement of n crates -/
def arrB (n : Nat) : V → Bool
  | .str z => decide (z.cps.size = n) && (strL z).all isPl
  | _ => false
theorem arrB_wd {n : Nat} {ds : List Nat} (h : ds.length = n) (h3 : D3 ds) : arrB n (.str (wd ds)) = true := by
  simp only [arrB, wd_size, h, decide_true, Bool.true_and, strL_wd, List.all_map, List.all_eq_true, Function.comp]
  exact fun d m => isPl_pl (h3 d m)
def Short (x : V) : Prop := ∀ z, x = .str z → z.length ≤ sizeLine
/-- a yard, or an InvalidYard -/
def YardOr (K : PySem.W.Frag) (H : Hp) (y : V) (E : XK) (k : List (List (Option Int)) → Prop) : Prop := ∃ a, Is K H y a ∧ (a ≠ .yard → Rz K "InvalidYard" "value" y H E) ∧ (a = .yard → ∃ p rows, y = .ref p ∧ Yd K H p rows ∧ k rows)
theorem yardOr_of {K : PySem.W.Frag} (F : KF K) {H : Hp} {p : Addr} {E : XK} {rows : List (List (Option Int))} {k : List (List (Option Int)) → Prop} (h : Yd K H p rows) (q : k rows) : YardOr K H (.ref p) E k := by
  obtain ⟨dx, t, as, ⟨rk, h1⟩, _⟩ := id h
  exact ⟨.yard, is_yard F h1, fun z => absurd rfl z, fun _ => ⟨p, rows, rfl, h, q⟩⟩
theorem YardOr.to {K : PySem.W.Frag} {H : Hp} {y : V} {E E' : XK} {k k' : List (List (Option Int)) → Prop} (h : YardOr K H y E k) (e : Rz K "InvalidYard" "value" y H E → Rz K "InvalidYard" "value" y H E') (f : ∀ p rows, y = .ref p → Yd K H p rows → k rows → k' rows) : YardOr K H y E' k' := by
  obtain ⟨a, h1, h2, h3⟩ := h
  refine ⟨a, h1, fun z => e (h2 z), fun z => ?_⟩
  obtain ⟨p, rows, r1, r2, r3⟩ := h3 z
  exact ⟨p, rows, r1, r2, f p rows r1 r2 r3⟩
theorem lenO_of {K : PySem.W.Frag} {H : Hp} {y : Addr} {rows : List (List (Option Int))} {Q : VK} (h : Yd K H y rows) (q : Q (.int rows.length) H) : rLenO (He.ga K "Yard") (sp_Yard_len K) [.ref y] H Q := by
  obtain ⟨dx, t, as, ⟨rk, h1⟩, h2, h3, h4, h5, h6⟩ := id h
  exact ⟨y, dx, _, rfl, h1, y, rows, rfl, h, rows.length, rfl, by omega, by omega, q⟩
def sp_is_arrangement (K : PySem.W.Frag) : Sp := sp2 fun y x H Q E => YardOr K H y E fun rows => ∃ b, Is K H x b ∧ Short x ∧ ∀ H', Same H H' → Q (.bl (arrB rows.length x)) H'
def sp_check_arrangement (K : PySem.W.Frag) : Sp := sp2 fun y x H Q E => YardOr K H y E fun rows => ∃ b, Is K H x b ∧ Short x ∧ (arrB rows.length x = true → ∀ H', Same H H' → Q .non H') ∧ (arrB rows.length x = false → Rz K "InvalidArrangement" "value" x H E)
def Arr (n : Nat) (x : V) (ds : List Nat) : Prop := x = .str (wd ds) ∧ ds.length = n ∧ D3 ds
/-- no arrangement, and so an InvalidArrangement -/
def NoArr (K : PySem.W.Frag) (H : Hp) (n : Nat) (x : V) (E : XK) : Prop := ∃ b, Is K H x b ∧ Short x ∧ arrB n x = false ∧ Rz K "InvalidArrangement" "value" x H E
def t_is_arrangement (K : PySem.W.Frag) (E : XK) : TS := (tSeq (tDrop (tFn (sp_check_yard K) E (tCons (tVar 0) tNil))) (tRet (tAndV (tCB (uIsi K) (tCons (tVar 1) (tCons (tC (.ty "str")) tNil))) (tAndV (tOp (uEq K) (tCB (uLen K) (tCons (tVar 1) tNil)) (tCB (rLenO (He.ga K "Yard") (sp_Yard_len K)) (tCons (tVar 0) tNil))) (tOp (uEq K) (tBM K "str" rStrip (tVar 1) (tCons (tC (.str "abc")) tNil)) (tC (.str "")))))))
def t_check_arrangement (K : PySem.W.Frag) (E : XK) : TS := (tIfS (tNot (tB (tFn (sp_is_arrangement K) E (tCons (tVar 0) (tCons (tVar 1) tNil))))) (tRse K "InvalidArrangement" "value" E (tCons (tVar 1) tNil)) tNext)
section
variable {K : PySem.W.Frag} (F : KF K) {vs : List V} {H : Hp} {Q : VK} {E : XK}
local macro_rules | `(tactic| walk_at "w") => `(tactic| try simp only [turnE, lcT, Snoc, tRet, tRetN, tAndV, tOrV, tNotV, tCB, tCons, tVar, tNil, tC, tOp, tSeq, tAsg, gName, gSub, tIfS, tDrop, tFn, tTup, tLst, tNext, tB, tTest, tNot, tAnd, tOr, tIf, tChain, tUn, rU, tFld, tPart, tNoPart, L2.tSl, tBM, tPar, tPar3, tTruth, tDNewK,
  L2.start, List.map_cons, List.map_nil, List.length_cons, List.length_nil, List.replicate_succ, List.replicate_zero, List.append_nil, List.nil_append, List.cons_append, List.singleton_append, Nat.sub_self, Nat.zero_add, Nat.reduceAdd, Nat.reduceSub,
  List.getElem?_cons_zero, List.getElem?_cons_succ, List.set_cons_zero, List.set_cons_succ, Option.some.injEq, exists_eq_left, exists_eq_left', V.int.injEq, V.bl.injEq, V.str.injEq, V.ref.injEq,
  uAdd_int, uAdd_str, uSub_int, uMul_int, uMul_str, uDiv_int, uMod_int, uPow_int, uLt_int, uLe_int, uGt_int, uGe_int, uIs_non, uNis_non, uIs_bl, uNis_bl, sp1, sp2, sp3, sp4, uEq_int, uEq_str, uNe_int, uNe_str, uSl_str, uLen_str, decide_eq_true_eq])
local macro_rules | `(tactic| walk_at "1") => `(tactic| try simp only [turnE, lcT, Snoc, tRet, tRetN, tAndV, tOrV, tNotV, tCB, tCons, tVar, tNil, tC, tOp, tAsg, gName, gSub, tIfS, tDrop, tFn, tTup, tLst, tNext, tB, tTest, tNot, tAnd, tOr, tIf, tChain, tUn, rU, tFld, tPart, tNoPart, L2.tSl, tBM, tPar, tPar3, tTruth, tDNewK,
  L2.start, List.map_cons, List.map_nil, List.length_cons, List.length_nil, List.replicate_succ, List.replicate_zero, List.append_nil, List.nil_append, List.cons_append, List.singleton_append, Nat.sub_self, Nat.zero_add, Nat.reduceAdd, Nat.reduceSub,
  List.getElem?_cons_zero, List.getElem?_cons_succ, List.set_cons_zero, List.set_cons_succ, Option.some.injEq, exists_eq_left, exists_eq_left', V.int.injEq, V.bl.injEq, V.str.injEq, V.ref.injEq,
  uAdd_int, uAdd_str, uSub_int, uMul_int, uMul_str, uDiv_int, uMod_int, uPow_int, uLt_int, uLe_int, uGt_int, uGe_int, uIs_non, uNis_non, uIs_bl, uNis_bl, sp1, sp2, sp3, sp4, uEq_int, uEq_str, uNe_int, uNe_str, uSl_str, uLen_str, decide_eq_true_eq])
local macro_rules | `(tactic| walk_at "s") => `(tactic| ((try dsimp only [turnE]); with_reducible refine seq_ ?_))

/-- check_yard(y), and then -/
theorem chk_yard {y : V} {H : Hp} {k : List (List (Option Int)) → Prop} {Q : VK} (h : YardOr K H y E k) (q : ∀ p rows, y = .ref p → Yd K H p rows → k rows → Q .non H) : sp_check_yard K [y] H Q E := by
  obtain ⟨a, h1, h2, h3⟩ := h
  refine ⟨a, h1, fun e => ?_, h2⟩
  obtain ⟨p, rows, z1, z2, z3⟩ := h3 e
  exact q p rows z1 z2 z3
theorem abc_one (c : Nat) : ("abc" : Str).cps.contains c = true ↔ isPl (.str ⟨#[c]⟩) = true := by
  have e : ("abc" : Str).cps = #[97, 98, 99] := by decide
  rw [e]
  constructor
  · intro h
    have h : c = 97 ∨ c = 98 ∨ c = 99 := by simpa using h
    rcases h with rfl | rfl | rfl <;> decide
  · intro h
    obtain ⟨d, hd, h2⟩ := isPl_inv h
    injection h2 with h2
    have h3 : (#[c] : Array Nat) = #[97 + d] := congrArg Str.cps h2
    have h4 : c = 97 + d := by simpa using h3
    subst h4
    have : d = 0 ∨ d = 1 ∨ d = 2 := by omega
    rcases this with rfl | rfl | rfl <;> simp
theorem strip_places (z : Str) : decide (Txt.stripChars z "abc" = "") = (strL z).all isPl := by
  rw [Bool.eq_iff_iff, decide_eq_true_iff, strip_nil, List.all_eq_true]
  unfold strL
  constructor
  · intro h v hv
    obtain ⟨c, hc, rfl⟩ := List.mem_map.mp hv
    exact (abc_one c).mp (h c hc)
  · intro h c hc
    exact (abc_one c).mpr (h _ (List.mem_map.mpr ⟨c, hc, rfl⟩))
include F in
theorem read_is_arrangement (h : sp_is_arrangement K vs H Q E) : t_is_arrangement K E { nx := fun _ H' => Q .non H', rt := Q } (start ["yard", "value"] vs) H := by
  match vs, h with
  | [y, x], h =>
    unfold t_is_arrangement
    walk_at "w"
    refine chk_yard h fun p rows ep hy ⟨b, hb, hs, q⟩ => ?_
    subst ep
    refine isi_ty (b := .str) F rfl hb ?_
    walk_at "w"
    by_cases e : b = .str
    · subst e
      obtain ⟨z, rfl⟩ := hb.str_inv
      simp only [Ty.sub, decide_true, Bool.true_or, if_true]
      refine ⟨hs z rfl, ?_⟩
      refine lenO_of hy ?_
      rw [uEq_int]
      refine ⟨_, rfl, ?_⟩
      by_cases el : z.cps.size = rows.length
      · rw [decide_eq_true (by show ((z.cps.size : Nat) : Int) = _; omega), if_pos rfl]
        refine ⟨rfl, z, "abc", rfl, rfl, hs z rfl, ?_⟩
        walk_at "w"
        rw [strip_places]
        have := q H (Same.refl H)
        simpa [arrB, el] using this
      · rw [decide_eq_false (by show ¬ ((z.cps.size : Nat) : Int) = _; omega), if_neg (by simp)]
        have := q H (Same.refl H)
        simpa [arrB, el] using this
    · rw [if_neg (by simp [Ty.sub, e])]
      have this := q H (Same.refl H)
      have e2 : arrB rows.length x = false := by cases x <;> first | rfl | exact absurd hb.of_str e
      rwa [e2] at this
include F in
theorem read_check_arrangement (h : sp_check_arrangement K vs H Q E) : t_check_arrangement K E { nx := fun _ H' => Q .non H', rt := Q } (start ["yard", "arrangement"] vs) H := by
  match vs, h with
  | [y, x], h =>
    unfold t_check_arrangement sp_is_arrangement
    walk_at "w"
    refine YardOr.to h id fun p rows ep hy ⟨b, hb, hs, q1, q2⟩ => ⟨b, hb, hs, fun H1 s => ?_⟩
    cases e : arrB rows.length x with
    | true => exact q1 e H1 s
    | false => exact rse_var (K := K) (c := "InvalidArrangement") (f := "value") (E := E) (i := 1) (D := { nx := fun _ H' => Q .non H', rt := Q }) rfl ((q2 e).same s)

theorem chk_arr {y x : V} {H : Hp} {Q : VK} {k : List (List (Option Int)) → List Nat → Prop} (h : YardOr K H y E fun rows => (∃ ds, Arr rows.length x ds ∧ k rows ds) ∨ NoArr K H rows.length x E)
    (q : ∀ p rows ds, y = .ref p → Yd K H p rows → Arr rows.length x ds → k rows ds → ∀ H', Same H H' → Q .non H') : sp_check_arrangement K [y, x] H Q E := by
  refine YardOr.to h id fun p rows e hy g => ?_
  rcases g with ⟨ds, ⟨rfl, a1, a2⟩, g⟩ | ⟨b, g1, g2, g3, g4⟩
  · refine ⟨.str, is_str _, fun z e => ?_, fun _ => q p rows ds e hy ⟨rfl, a1, a2⟩ g, fun z => ?_⟩
    · cases e
      obtain ⟨_, _, _, _, _, _, l1, l2, _⟩ := hy
      rw [wd_length, a1]
      exact Nat.le_trans l1 (by decide)
    · rw [arrB_wd a1 a2] at z
      cases z
  · exact ⟨b, g1, g2, fun z => absurd (g3.symm.trans z) (by decide), fun _ => g4⟩
theorem chk_arr3 {y x : V} {H : Hp} {Q : VK} {k : List (List (Option Int)) → List Nat → Prop} (h : YardOr K H y E fun rows => NoArr K H rows.length x E ∨ ∃ ds, Arr rows.length x ds ∧ k rows ds)
    (q : ∀ p rows ds, y = .ref p → Yd K H p rows → Arr rows.length x ds → k rows ds → ∀ H', Same H H' → Q .non H') : sp_check_arrangement K [y, x] H Q E :=
  chk_arr (k := k) (YardOr.to h id fun _ _ _ _ g => g.symm) q
end
theorem uIx_str {K : PySem.W.Frag} {z : Str} {i : Int} {c : Nat} {H : Hp} {Q : VK} (h : z.length ≤ sizeLine) (hi : atI z.cps.toList i = some c) (q : Q (.str ⟨#[c]⟩) H) : uIx K (.str z) (.int i) H Q := ⟨h, c, hi, q⟩
theorem cut_wd (ds : List Nat) (lo hi : Option Int) : cutS (wd ds) lo hi = wd ((ds.drop (HT.sIx ds.length 0 lo)).take (HT.sIx ds.length ds.length hi - HT.sIx ds.length 0 lo)) := by
  unfold cutS
  rw [wd_length]
  have e : (wd ds).cps.toList = ds.map (97 + ·) := by simp [wd]
  rw [e, ← List.map_drop, ← List.map_take]
  rfl
theorem cut_from {ds : List Nat} {k : Nat} (h : k ≤ ds.length) : cutS (wd ds) (some (k : Int)) none = wd (ds.drop k) := by
  rw [cut_wd, HT.sIx_none, HT.sIx_nat]
  have e : min k ds.length = k := by omega
  rw [e, List.take_of_length_le (by simp)]
end U
namespace U
open PySem PySem.Spec PyProof.Rows L2

/-! ### ways, prices, moves -/
def Mv (K : PySem.W.Frag) (H : Hp) (t : Addr) (k d : Nat) : Prop := SqT K H t [.int k, .str (pl d)]
/-- a value that has the form of a move, or not -/
def MvF (K : PySem.W.Frag) (H : Hp) (n : Nat) (x : V) (b : Bool) : Prop := (∃ a, Is K H x a ∧ a ≠ .tup ∧ b = false) ∨
  ∃ t xs, x = .ref t ∧ SqT K H t xs ∧ ((xs.length ≠ 2 ∧ b = false) ∨ ∃ u v c e, xs = [u, v] ∧ Is K H u c ∧ Is K H v e ∧ b = (isIn u 0 ((n : Int) - 1) && isPl v))
theorem MvF.same {K : PySem.W.Frag} {H H' : Hp} {n : Nat} {x : V} {b : Bool} (e : Same H H') (h : MvF K H n x b) : MvF K H' n x b := by
  rcases h with ⟨a, h, r⟩ | ⟨t, xs, h1, h2, h3⟩
  · exact .inl ⟨a, h.same e, r⟩
  · refine .inr ⟨t, xs, h1, Same.sqT e h2, ?_⟩
    rcases h3 with h3 | ⟨u, v, c, d, z1, z2, z3, z4⟩
    · exact .inl h3
    · exact .inr ⟨u, v, c, d, z1, z2.same e, z3.same e, z4⟩
theorem Mv.form {K : PySem.W.Frag} {H : Hp} {t : Addr} {k d n : Nat} (h : Mv K H t k d) (hk : k < n) (hd : d < 3) : MvF K H n (.ref t) true := by
  refine .inr ⟨t, _, rfl, h, .inr ⟨_, _, .int, .str, rfl, is_int _, is_str _, ?_⟩⟩
  rw [isPl_pl hd]
  show true = (decide ((0 : Int) ≤ (k : Int)) && decide ((k : Int) ≤ (n : Int) - 1) && true)
  rw [decide_eq_true (by omega), decide_eq_true (by omega)]
  rfl
section
variable {K : PySem.W.Frag} (F : KF K) {vs : List V} {H : Hp} {Q : VK} {E : XK}
local macro_rules | `(tactic| walk_at "w") => `(tactic| try simp only [turnE, lcT, Snoc, tRet, tRetN, tAndV, tOrV, tNotV, tCB, tCons, tVar, tNil, tC, tOp, tSeq, tAsg, gName, gSub, tIfS, tDrop, tFn, tTup, tLst, tNext, tB, tTest, tNot, tAnd, tOr, tIf, tChain, tUn, rU, tFld, tPart, tNoPart, L2.tSl, tBM, tPar, tPar3, tTruth, tDNewK,
  L2.start, List.map_cons, List.map_nil, List.length_cons, List.length_nil, List.replicate_succ, List.replicate_zero, List.append_nil, List.nil_append, List.cons_append, List.singleton_append, Nat.sub_self, Nat.zero_add, Nat.reduceAdd, Nat.reduceSub,
  List.getElem?_cons_zero, List.getElem?_cons_succ, List.set_cons_zero, List.set_cons_succ, Option.some.injEq, exists_eq_left, exists_eq_left', V.int.injEq, V.bl.injEq, V.str.injEq, V.ref.injEq,
  uAdd_int, uAdd_str, uSub_int, uMul_int, uMul_str, uDiv_int, uMod_int, uPow_int, uLt_int, uLe_int, uGt_int, uGe_int, uIs_non, uNis_non, uIs_bl, uNis_bl, sp1, sp2, sp3, sp4, uEq_int, uEq_str, uNe_int, uNe_str, uSl_str, uLen_str, decide_eq_true_eq])
local macro_rules | `(tactic| walk_at "1") => `(tactic| try simp only [turnE, lcT, Snoc, tRet, tRetN, tAndV, tOrV, tNotV, tCB, tCons, tVar, tNil, tC, tOp, tAsg, gName, gSub, tIfS, tDrop, tFn, tTup, tLst, tNext, tB, tTest, tNot, tAnd, tOr, tIf, tChain, tUn, rU, tFld, tPart, tNoPart, L2.tSl, tBM, tPar, tPar3, tTruth, tDNewK,
  L2.start, List.map_cons, List.map_nil, List.length_cons, List.length_nil, List.replicate_succ, List.replicate_zero, List.append_nil, List.nil_append, List.cons_append, List.singleton_append, Nat.sub_self, Nat.zero_add, Nat.reduceAdd, Nat.reduceSub,
  List.getElem?_cons_zero, List.getElem?_cons_succ, List.set_cons_zero, List.set_cons_succ, Option.some.injEq, exists_eq_left, exists_eq_left', V.int.injEq, V.bl.injEq, V.str.injEq, V.ref.injEq,
  uAdd_int, uAdd_str, uSub_int, uMul_int, uMul_str, uDiv_int, uMod_int, uPow_int, uLt_int, uLe_int, uGt_int, uGe_int, uIs_non, uNis_non, uIs_bl, uNis_bl, sp1, sp2, sp3, sp4, uEq_int, uEq_str, uNe_int, uNe_str, uSl_str, uLen_str, decide_eq_true_eq])
local macro_rules | `(tactic| walk_at "s") => `(tactic| ((try dsimp only [turnE]); with_reducible refine seq_ ?_))

theorem at_nat {xs : List V} {k : Nat} {v : V} (h : xs[k]? = some v) : atI xs (k : Int) = some v := by
  have lt := (List.getElem?_eq_some_iff.mp h).1
  unfold atI ixN
  rw [if_pos (Int.natCast_nonneg k), if_pos (by omega)]
  show xs[((k : Nat) : Int).toNat]? = _
  rw [Int.toNat_natCast, h]
theorem Yd.ys {y : Addr} {rows : List (List (Option Int))} (h : Yd K H y rows) : ∃ dx t rk, H y = some (.ins (He.ga K "Yard") dx [("_rows", .ref t), ("_reckoning", rk)]) ∧ Ys K H t rows := by
  obtain ⟨dx, t, as, ⟨rk, h1⟩, h2, h3, h4, h5, h6, h7⟩ := h
  exact ⟨dx, t, rk, h1, as, h2, h3, h6⟩
theorem Yd.six {y : Addr} {rows : List (List (Option Int))} (h : Yd K H y rows) {k : Nat} (hk : k < rows.length) : rows[k].length = 6 := by
  obtain ⟨_, _, _, _, _, _, _, _, _, h7⟩ := h
  exact (h7 rows[k] (List.getElem_mem hk)).1
end
end U
namespace U
open PySem PySem.Spec PyProof.Rows L2

/-! ### a yard's lists, and other yards made of one -/
/-- fresh lists of prices -/
def RowL (H : Hp) (ls : List Addr) (rows : List (List (Option Int))) : Prop := ls.length = rows.length ∧ ∀ (i : Nat) (a : Addr) (r : List (Option Int)), ls[i]? = some a → rows[i]? = some r → H a = some (.lst (r.map pV))
def sp_Yard_rows (K : PySem.W.Frag) : Sp := sp1 fun y H Q _ => ∃ p rows, y = .ref p ∧ Yd K H p rows ∧ ∀ l ls H', Same H H' → H l = none → H' l = some (.lst (ls.map V.ref)) → RowL H' ls rows → ls.Nodup → l ∉ ls → (∀ a ∈ ls, H a = none) → Q (.ref l) H'
def t_Yard_rows (K : PySem.W.Frag) (E : XK) : TS := (tRet (tLc (iSeq K (tFld K (tVar 0) "_rows")) (gName 1) tYes (tCB (uLst K) (tCons (tVar 1) tNil)) [1]))
section
variable {K : PySem.W.Frag} (F : KF K) {vs : List V} {H : Hp} {Q : VK} {E : XK}
local macro_rules | `(tactic| walk_at "w") => `(tactic| try simp only [turnE, lcT, Snoc, tRet, tRetN, tAndV, tOrV, tNotV, tCB, tCons, tVar, tNil, tC, tOp, tSeq, tAsg, gName, gSub, tIfS, tDrop, tFn, tTup, tLst, tNext, tB, tTest, tNot, tAnd, tOr, tIf, tChain, tUn, rU, tFld, tPart, tNoPart, L2.tSl, tBM, tPar, tPar3, tTruth, tDNewK,
  L2.start, List.map_cons, List.map_nil, List.length_cons, List.length_nil, List.replicate_succ, List.replicate_zero, List.append_nil, List.nil_append, List.cons_append, List.singleton_append, Nat.sub_self, Nat.zero_add, Nat.reduceAdd, Nat.reduceSub,
  List.getElem?_cons_zero, List.getElem?_cons_succ, List.set_cons_zero, List.set_cons_succ, Option.some.injEq, exists_eq_left, exists_eq_left', V.int.injEq, V.bl.injEq, V.str.injEq, V.ref.injEq,
  uAdd_int, uAdd_str, uSub_int, uMul_int, uMul_str, uDiv_int, uMod_int, uPow_int, uLt_int, uLe_int, uGt_int, uGe_int, uIs_non, uNis_non, uIs_bl, uNis_bl, sp1, sp2, sp3, sp4, uEq_int, uEq_str, uNe_int, uNe_str, uSl_str, uLen_str, decide_eq_true_eq])
local macro_rules | `(tactic| walk_at "1") => `(tactic| try simp only [turnE, lcT, Snoc, tRet, tRetN, tAndV, tOrV, tNotV, tCB, tCons, tVar, tNil, tC, tOp, tAsg, gName, gSub, tIfS, tDrop, tFn, tTup, tLst, tNext, tB, tTest, tNot, tAnd, tOr, tIf, tChain, tUn, rU, tFld, tPart, tNoPart, L2.tSl, tBM, tPar, tPar3, tTruth, tDNewK,
  L2.start, List.map_cons, List.map_nil, List.length_cons, List.length_nil, List.replicate_succ, List.replicate_zero, List.append_nil, List.nil_append, List.cons_append, List.singleton_append, Nat.sub_self, Nat.zero_add, Nat.reduceAdd, Nat.reduceSub,
  List.getElem?_cons_zero, List.getElem?_cons_succ, List.set_cons_zero, List.set_cons_succ, Option.some.injEq, exists_eq_left, exists_eq_left', V.int.injEq, V.bl.injEq, V.str.injEq, V.ref.injEq,
  uAdd_int, uAdd_str, uSub_int, uMul_int, uMul_str, uDiv_int, uMod_int, uPow_int, uLt_int, uLe_int, uGt_int, uGe_int, uIs_non, uNis_non, uIs_bl, uNis_bl, sp1, sp2, sp3, sp4, uEq_int, uEq_str, uNe_int, uNe_str, uSl_str, uLen_str, decide_eq_true_eq])
local macro_rules | `(tactic| walk_at "s") => `(tactic| ((try dsimp only [turnE]); with_reducible refine seq_ ?_))

theorem tLc_inT {t : TE} {g : TG} {tt : TT} {te : TE} {ws : List Nat} {σ : L2.St} {H : Hp} (h : t σ H fun x H1 => ∃ a, x = .ref a ∧ (∃ xs, SqT K H1 a xs) ∧ ∀ D, H1 D = none → LcB (Itt K a) g tt te ws σ H1 D (Q (.ref D))) : tLc (iSeq K t) g tt te ws σ H Q := .inr h
include F in
theorem read_Yard_rows (h : sp_Yard_rows K vs H Q E) : t_Yard_rows K E { nx := fun _ H' => Q .non H', rt := Q } (start ["self", "row"] vs) H := by
  match vs, h with
  | [_], ⟨p, rows, rfl, hy, q⟩ =>
    unfold t_Yard_rows
    obtain ⟨dx, t, as, ⟨rk, y1⟩, y2, y3, y4, y5, y6, y7⟩ := id hy
    simp only [tRet]
    refine tLc_inT ?_
    walk_at "1"
    refine ⟨p, _, dx, _, .ref t, rfl, y1, F.cl, F.na, rfl, t, rfl, ⟨_, y2⟩, fun D hD => ?_⟩
    refine lc_plain (plain_T (xs := as.map V.ref)) (fun i H' => Same H H' ∧ ∃ ls, H' D = some (.lst (ls.map V.ref)) ∧ ls.length = i ∧ ls.Nodup ∧ D ∉ ls ∧ (∀ a ∈ ls, H a = none) ∧ ∀ (j : Nat) (a : Addr) (r : List (Option Int)), ls[j]? = some a → rows[j]? = some r → H' a = some (.lst (r.map pV)))
      ⟨same_new hD, [], upd_same, rfl, .nil, (fun m => nomatch m), (fun a m => nomatch m), fun j a r z => nomatch z⟩ (fun i H' z => Same.sqT z.1 y2) ?_ ?_
    · rintro i x H2 hx ⟨s2, ls, gD, hl, nd, nD, nH, at_⟩
      rw [List.getElem?_map] at hx
      obtain ⟨a, ha, rfl⟩ := Option.map_eq_some_iff.mp hx
      have hi : i < as.length := by exact (List.getElem?_eq_some_iff.mp ha).1
      have hr : rows[i]? = some rows[i] := List.getElem?_eq_getElem (by omega)
      simp only [lcT, wipe, gName, List.set_cons_zero, List.set_cons_succ]
      refine ⟨trivial, ?_⟩
      simp only [tYes, if_true]
      walk_at "1"
      refine ⟨_, .inr (Same.sqT s2 (y6 i a _ ha hr)), fun l nl => ?_⟩
      have lD : l ≠ D := by rintro rfl; rw [gD] at nl; cases nl
      have lls : l ∉ ls := fun m => by
        obtain ⟨j, lt, e⟩ := List.mem_iff_getElem.mp m
        have := at_ j l rows[j] (by rw [← e]; exact List.getElem?_eq_getElem lt) (List.getElem?_eq_getElem (by omega))
        rw [this] at nl
        cases nl
      have nHl : H l = none := by
        cases e : H l with
        | none => rfl
        | some o => rw [s2 _ _ e] at nl; cases nl
      have s3 : Same H2 (upd H2 l (.lst (rows[i].map pV))) := same_new nl
      have gl : upd H2 l (.lst (rows[i].map pV)) l = some (.lst (rows[i].map pV)) := upd_same
      generalize upd H2 l (.lst (rows[i].map pV)) = H3 at *
      refine ⟨_, s3 _ _ gD, ?_, (Off.trans (Same.off (s2.trans s3)) off_upd).same hD, ls ++ [l], by rw [upd_same]; simp, by simp [hl], ?_, ?_, ?_, ?_⟩
      · rw [List.length_map, hl]
        exact Nat.lt_of_lt_of_le (show i < 61 by omega) (by decide)
      · rw [List.nodup_append]
        refine ⟨nd, by simp, fun x hx y hy => ?_⟩
        rw [List.mem_singleton.mp hy]
        rintro rfl
        exact lls hx
      · rintro m
        rcases List.mem_append.mp m with m | m
        · exact nD m
        · exact lD (List.mem_singleton.mp m).symm
      · rintro x m
        rcases List.mem_append.mp m with m | m
        · exact nH x m
        · rw [List.mem_singleton.mp m]; exact nHl
      · rintro j x r z1 z2
        have xD : x ≠ D := by
          rintro rfl
          rcases List.mem_append.mp (List.mem_of_getElem? z1) with m | m
          · exact nD m
          · exact lD (List.mem_singleton.mp m).symm
        rw [upd_ne xD]
        by_cases e : j < ls.length
        · rw [List.getElem?_append_left e] at z1
          exact s3 _ _ (at_ j x r z1 z2)
        · have e2 : j = ls.length := by
            have := (List.getElem?_eq_some_iff.mp z1).1
            simp at this
            omega
          subst e2
          rw [List.getElem?_append_right (Nat.le_refl _), Nat.sub_self] at z1
          cases z1
          rw [hl, hr] at z2
          cases z2
          exact gl
    · rintro H2 ⟨s2, ls, gD, hl, nd, nD, nH, at_⟩
      rw [List.length_map] at hl
      exact q D ls H2 s2 hD gD ⟨by omega, at_⟩ nd nD nH
end
end U
namespace U
open PySem PySem.Spec PyProof.Rows L2

/-! ### rows of prices as data, in lists and in tuples -/
def pD : Option Int → PyData
  | none => .none
  | some i => .int i
def gridL (rows : List (List (Option Int))) : PyData := .list (rows.map fun r => .list (r.map pD))
theorem pD_eqv (a b : Option Int) : PyData.eqv (pD a) (pD b) = decide (a = b) := by
  cases a <;> cases b <;> simp [pD, PyData.eqv] <;> rfl
theorem all_eqv {α : Type} [DecidableEq α] (f : α → PyData) (hf : ∀ a b, PyData.eqv (f a) (f b) = decide (a = b)) : ∀ as bs : List α, PyData.eqvAll (as.map f) (bs.map f) = decide (as = bs)
  | [], [] => by simp [PyData.eqvAll]
  | [], _ :: _ => by simp [PyData.eqvAll]
  | _ :: _, [] => by simp [PyData.eqvAll]
  | a :: r, b :: s => by
    simp only [List.map_cons, PyData.eqvAll, hf, all_eqv f hf r s, List.cons.injEq]
    exact (Bool.decide_and ..).symm
theorem gridL_eqv (a b : List (List (Option Int))) : PyData.eqv (gridL a) (gridL b) = decide (a = b) := by
  unfold gridL
  rw [PyData.eqv]
  refine all_eqv (fun r : List (Option Int) => PyData.list (r.map pD)) (fun r s => ?_) a b
  rw [PyData.eqv]
  exact all_eqv pD pD_eqv r s
theorem line_flat (r : List (Option Int)) : PyData.canLayAll0 (r.map pD) = true ∧ PyData.depthAll (r.map pD) = 0 := by
  induction r with
  | nil => exact ⟨by simp [PyData.canLayAll0], by simp [PyData.depthAll]⟩
  | cons o t ih => cases o <;> simp [PyData.canLayAll0, PyData.depthAll, pD, PyData.canLay0, PyData.depth, ih]
theorem gridL_shaped (rows : List (List (Option Int))) : SeqAt.shaped (gridL rows) = true := by
  have all : PyData.canLayAll0 (rows.map fun r => .list (r.map pD)) = true ∧ PyData.depthAll (rows.map fun r => .list (r.map pD)) ≤ 1 := by
    induction rows with
    | nil => exact ⟨by simp [PyData.canLayAll0], by simp [PyData.depthAll]⟩
    | cons r t ih => simp [PyData.canLayAll0, PyData.canLay0, PyData.depthAll, PyData.depth, ih, line_flat r]
  unfold SeqAt.shaped gridL
  rw [PyData.canLay0, all.1, PyData.depth]
  refine decide_eq_true (by omega)
/-- a list of lists of prices -/
def GrL (K : PySem.W.Frag) (H : Hp) (p : Addr) (rows : List (List (Option Int))) : Prop := ∃ as : List Addr, SqL K H p (as.map V.ref) ∧ as.length = rows.length ∧
  ∀ (i : Nat) (a : Addr) (r : List (Option Int)), as[i]? = some a → rows[i]? = some r → SqL K H a (r.map pV)
section
variable {K : PySem.W.Frag} {H H' : Hp} {Q : VK}
theorem GrL.same {p : Addr} {rows : List (List (Option Int))} (e : Same H H') (h : GrL K H p rows) : GrL K H' p rows := by
  obtain ⟨as, h1, h2, h3⟩ := h
  exact ⟨as, Same.seq e h1, h2, fun i a r z1 z2 => Same.seq e (h3 i a r z1 z2)⟩
theorem dp_gridL {p : Addr} {rows : List (List (Option Int))} (h : GrL K H p rows) : Dp K H (.ref p) (gridL rows) := by
  obtain ⟨as, h1, h2, h3⟩ := h
  refine .lst h1 ?_
  clear h1
  induction as generalizing rows with
  | nil =>
    cases rows with
    | nil => exact .nil
    | cons r t => cases h2
  | cons a as ih =>
    cases rows with
    | nil => cases h2
    | cons r t =>
      refine .cons (.lst (h3 0 a r rfl rfl) ?_) (ih (Nat.succ.inj h2) fun j x y z1 z2 => h3 (j + 1) x y z1 z2)
      clear ih h2 h3
      induction r with
      | nil => exact .nil
      | cons o t ih =>
        refine .cons ?_ ih
        cases o with
        | none => exact .non
        | some i => exact .int i
/-- lists of lists of prices, told apart -/
theorem eq_gr {p q : Addr} {r1 r2 : List (List (Option Int))} (h1 : GrL K H p r1) (h2 : GrL K H q r2) (k : Q (.bl (decide (r1 = r2))) H) : uEq K (.ref p) (.ref q) H Q := by
  refine ⟨_, _, dp_gridL h1, dp_gridL h2, gridL_shaped _, gridL_shaped _, ?_⟩
  rw [gridL_eqv]
  exact k
end
end U
namespace U
open PySem PySem.Spec PyProof.Rows L2

/-! ### other yards made of one -/
/-- a way, by its places -/
def waysN : List (Nat × Nat) := [(0, 1), (0, 2), (1, 0), (1, 2), (2, 0), (2, 1)]
def okW (w : Nat × Nat) : Prop := w.1 < 3 ∧ w.2 < 3 ∧ w.1 ≠ w.2
section
variable {K : PySem.W.Frag} (F : KF K) {vs : List V} {H : Hp} {Q : VK} {E : XK}
local macro_rules | `(tactic| walk_at "w") => `(tactic| try simp only [turnE, lcT, Snoc, tRet, tRetN, tAndV, tOrV, tNotV, tCB, tCons, tVar, tNil, tC, tOp, tSeq, tAsg, gName, gSub, tIfS, tDrop, tFn, tTup, tLst, tNext, tB, tTest, tNot, tAnd, tOr, tIf, tChain, tUn, rU, tFld, tPart, tNoPart, L2.tSl, tBM, tPar, tPar3, tTruth, tDNewK,
  L2.start, List.map_cons, List.map_nil, List.length_cons, List.length_nil, List.replicate_succ, List.replicate_zero, List.append_nil, List.nil_append, List.cons_append, List.singleton_append, Nat.sub_self, Nat.zero_add, Nat.reduceAdd, Nat.reduceSub,
  List.getElem?_cons_zero, List.getElem?_cons_succ, List.set_cons_zero, List.set_cons_succ, Option.some.injEq, exists_eq_left, exists_eq_left', V.int.injEq, V.bl.injEq, V.str.injEq, V.ref.injEq,
  uAdd_int, uAdd_str, uSub_int, uMul_int, uMul_str, uDiv_int, uMod_int, uPow_int, uLt_int, uLe_int, uGt_int, uGe_int, uIs_non, uNis_non, uIs_bl, uNis_bl, sp1, sp2, sp3, sp4, uEq_int, uEq_str, uNe_int, uNe_str, uSl_str, uLen_str, decide_eq_true_eq])
local macro_rules | `(tactic| walk_at "1") => `(tactic| try simp only [turnE, lcT, Snoc, tRet, tRetN, tAndV, tOrV, tNotV, tCB, tCons, tVar, tNil, tC, tOp, tAsg, gName, gSub, tIfS, tDrop, tFn, tTup, tLst, tNext, tB, tTest, tNot, tAnd, tOr, tIf, tChain, tUn, rU, tFld, tPart, tNoPart, L2.tSl, tBM, tPar, tPar3, tTruth, tDNewK,
  L2.start, List.map_cons, List.map_nil, List.length_cons, List.length_nil, List.replicate_succ, List.replicate_zero, List.append_nil, List.nil_append, List.cons_append, List.singleton_append, Nat.sub_self, Nat.zero_add, Nat.reduceAdd, Nat.reduceSub,
  List.getElem?_cons_zero, List.getElem?_cons_succ, List.set_cons_zero, List.set_cons_succ, Option.some.injEq, exists_eq_left, exists_eq_left', V.int.injEq, V.bl.injEq, V.str.injEq, V.ref.injEq,
  uAdd_int, uAdd_str, uSub_int, uMul_int, uMul_str, uDiv_int, uMod_int, uPow_int, uLt_int, uLe_int, uGt_int, uGe_int, uIs_non, uNis_non, uIs_bl, uNis_bl, sp1, sp2, sp3, sp4, uEq_int, uEq_str, uNe_int, uNe_str, uSl_str, uLen_str, decide_eq_true_eq])
local macro_rules | `(tactic| walk_at "s") => `(tactic| ((try dsimp only [turnE]); with_reducible refine seq_ ?_))

theorem Yd.ok {p : Addr} {rows : List (List (Option Int))} (h : Yd K H p rows) : RowsOk rows := by
  obtain ⟨_, _, _, _, _, _, l1, l2, _, l3⟩ := h
  exact ⟨l2, l1, l3⟩
/-- a comprehension whose turns make new lists -/
theorem lc_fresh {J : It} {G : Hp → Prop} {xs : List V} (P : Plain J xs G) (f : Nat → List V) {te : TE} {j : Nat} {σ : L2.St} {H : Hp} {D : Addr} {Qd : Hp → Prop} (hD : H D = none) (hl : xs.length ≤ 1000) (hG : ∀ H', Same H H' → G H')
    (hs : ∀ i x H2 (Q : VK), xs[i]? = some x → Same H H2 → (∀ l H3, H2 l = none → Same H2 H3 → H3 l = some (.lst (f i)) → Q (.ref l) H3) → te (σ.set j (some x)) H2 Q)
    (hd : ∀ (H2 : Hp) (ls : List Addr), Same H H2 → ls.length = xs.length → H2 D = some (.lst (ls.map V.ref)) → (∀ (i : Nat) (l : Addr), ls[i]? = some l → H2 l = some (.lst (f i))) → ls.Nodup → D ∉ ls → (∀ l ∈ ls, H l = none) → Qd H2) : LcB J (gName j) tYes te [j] σ H D Qd := by
  refine lc_plain P (fun i H' => Same H H' ∧ ∃ ls : List Addr, H' D = some (.lst (ls.map V.ref)) ∧ ls.length = i ∧ D ∉ ls ∧ (∀ (j : Nat) (a : Addr), ls[j]? = some a → H' a = some (.lst (f j))) ∧ ls.Nodup ∧ ∀ l ∈ ls, H l = none)
    ⟨same_new hD, [], upd_same, rfl, (fun m => nomatch m), (fun j a z => nomatch z), .nil, fun l m => nomatch m⟩ (fun i H' z => hG _ z.1) ?_ (fun H2 ⟨s2, ls, gD, hl, nD, at_, nd, fr⟩ => hd H2 ls s2 hl gD at_ nd nD fr)
  rintro i x H2 hx ⟨s2, ls, gD, hll, nD, at_, nd, fr⟩
  have hi : i < xs.length := (List.getElem?_eq_some_iff.mp hx).1
  show wipe _ [j] = wipe σ [j] ∧ _
  refine ⟨by simp only [wipe, List.set_set], ?_⟩
  show te ((σ.set j none).set j (some x)) H2 _
  rw [List.set_set]
  refine hs i x H2 _ hx s2 fun l H3 nl s3 gl => ?_
  have lD : l ≠ D := by rintro rfl; rw [gD] at nl; cases nl
  have lls : l ∉ ls := fun m => by
    obtain ⟨k, lt, e⟩ := List.mem_iff_getElem.mp m
    have := at_ k l (by rw [← e]; exact List.getElem?_eq_getElem lt)
    rw [this] at nl
    cases nl
  refine ⟨_, s3 _ _ gD, ?_, (Off.trans (Same.off (s2.trans s3)) off_upd).same hD, ls ++ [l], by rw [upd_same]; simp, by simp [hll], ?_, ?_, ?_, ?_⟩
  · rw [List.length_map, hll]
    exact Nat.lt_of_lt_of_le (show i < 1001 by omega) (by decide)
  · rintro m
    rcases List.mem_append.mp m with m | m
    · exact nD m
    · exact lD (List.mem_singleton.mp m).symm
  · rintro k y z1
    have yD : y ≠ D := by
      rintro rfl
      rcases List.mem_append.mp (List.mem_of_getElem? z1) with m | m
      · exact nD m
      · exact lD (List.mem_singleton.mp m).symm
    rw [upd_ne yD]
    by_cases e : k < ls.length
    · rw [List.getElem?_append_left e] at z1
      exact s3 _ _ (at_ k y z1)
    · have e2 : k = ls.length := by
        have := (List.getElem?_eq_some_iff.mp z1).1
        simp at this
        omega
      subst e2
      rw [List.getElem?_append_right (Nat.le_refl _), Nat.sub_self] at z1
      cases z1
      rw [← hll] at gl
      exact gl
  · rw [List.nodup_append]
    refine ⟨nd, by simp, fun x hx y hy => ?_⟩
    rw [List.mem_singleton.mp hy]
    rintro rfl
    exact lls hx
  · intro y m
    rcases List.mem_append.mp m with m | m
    · exact fr y m
    · rw [List.mem_singleton.mp m]
      cases e : H l with
      | none => rfl
      | some o => rw [s2 _ _ e] at nl; cases nl
theorem ways6V : ([.str "ab", .str "ac", .str "ba", .str "bc", .str "ca", .str "cb"] : List V) = waysN.map fun w => V.str (wd [w.1, w.2]) := by decide
theorem rev_wd2 (ds : List Nat) (u : Tok) : Txt.sliceBy (wd ds) none none (-1, u) = wd ds.reverse := by
  have ext : ∀ a b : Str, a.cps.toList = b.cps.toList → a = b := fun a b h => by
    obtain ⟨a⟩ := a
    obtain ⟨b⟩ := b
    exact congrArg Str.mk (Array.toList_inj.mp h)
  apply ext
  rw [step_rev_list, wd_length]
  have e : (wd ds.reverse).cps.toList = (ds.map (97 + ·)).reverse := by simp [wd]
  rw [e]
  apply List.ext_getElem
  · simp
  · intro i h1 h2
    simp at h1 h2
    have lt : ds.length - 1 - i < ds.length := by omega
    simp [wd, lt]
theorem waysN_ok : ∀ w ∈ waysN, okW w := by
  unfold okW
  decide
end
end U
namespace U
open PySem PySem.Spec PyProof.Rows L2 TL

/-! ### texts cut at a sign -/
def linesL (l : List Nat) : List (List Nat) := spl [10] 0 [] l
def wordsL (l : List Nat) : List (List Nat) := spl [32] 0 [] l
theorem spl_mem {s : Nat} : ∀ (l acc : List Nat), s ∉ acc → ∀ w ∈ spl [s] 0 acc l, s ∉ w ∧ ∃ p q, acc ++ l = p ++ (w ++ q)
  | [], acc, h, w, m => by
    rw [spl_nil] at m
    rw [List.mem_singleton.mp m]
    exact ⟨h, [], [], by simp⟩
  | c :: r, acc, h, w, m => by
    by_cases e : c = s
    · subst e
      rw [spl_hit (by simp [pre])] at m
      rcases List.mem_cons.mp m with rfl | m
      · exact ⟨h, [], c :: r, by simp⟩
      · obtain ⟨h1, p, q, e⟩ := spl_mem r [] (by simp) w m
        refine ⟨h1, acc ++ [c] ++ p, q, ?_⟩
        have : r = p ++ (w ++ q) := by simpa using e
        rw [this]
        simp
    · rw [spl_miss (pre_of_head _ _ e)] at m
      obtain ⟨h1, p, q, e2⟩ := spl_mem r (acc ++ [c]) (by simp [h]; exact fun z => e z.symm) w m
      exact ⟨h1, p, q, by simpa using e2⟩
/-! ### the longest word of a text -/
def sepc (c : Nat) : Bool := c == 10 || c == 32
def mx : Nat → List Nat → Nat
  | k, [] => k
  | k, c :: r => if sepc c = true then max k (mx 0 r) else mx (k + 1) r
theorem mx_mono : ∀ (l : List Nat) {j k : Nat}, j ≤ k → mx j l ≤ mx k l
  | [], j, k, h => h
  | c :: r, j, k, h => by
    unfold mx
    split
    · omega
    · exact mx_mono r (by omega)
theorem mx_ge : ∀ (l : List Nat) (k : Nat), k ≤ mx k l
  | [], k => Nat.le_refl _
  | c :: r, k => by
    unfold mx
    split
    · omega
    · exact Nat.le_trans (Nat.le_succ k) (mx_ge r (k + 1))
theorem mx_pre : ∀ (a b : List Nat) (k : Nat), mx k a ≤ mx k (a ++ b)
  | [], b, k => mx_ge b k
  | c :: r, b, k => by
    show _ ≤ mx k (c :: (r ++ b))
    unfold mx
    split
    · have := mx_pre r b 0
      omega
    · exact mx_pre r b (k + 1)
theorem mx_suf : ∀ (a b : List Nat) (k : Nat), mx 0 b ≤ mx k (a ++ b)
  | [], b, k => mx_mono b (Nat.zero_le _)
  | c :: r, b, k => by
    show _ ≤ mx k (c :: (r ++ b))
    rw [mx]
    split
    · have := mx_suf r b 0
      omega
    · exact mx_suf r b (k + 1)
theorem mx_free : ∀ (w : List Nat) (k : Nat), (∀ c ∈ w, sepc c = false) → mx k w = k + w.length
  | [], k, _ => rfl
  | c :: r, k, h => by
    rw [mx, if_neg (by rw [h c List.mem_cons_self]; decide), mx_free r (k + 1) fun d m => h d (List.mem_cons_of_mem _ m), List.length_cons]
    omega
theorem word_mx {t l w : List Nat} (hl : l ∈ linesL t) (hw : w ∈ wordsL l) : w.length ≤ mx 0 t := by
  obtain ⟨h1, p, q, e⟩ := spl_mem t [] (by simp) l hl
  obtain ⟨h2, p2, q2, e2⟩ := spl_mem l [] (by simp) w hw
  rw [List.nil_append] at e e2
  have h10 : 10 ∉ w := fun m => h1 (by rw [e2]; simp [m])
  have free : ∀ c ∈ w, sepc c = false := fun c m => by
    unfold sepc
    rw [Bool.or_eq_false_iff]
    refine ⟨?_, ?_⟩
    · exact beq_false_of_ne fun z => h10 (z ▸ m)
    · exact beq_false_of_ne fun z => h2 (z ▸ m)
  have e3 : mx 0 w = w.length := by rw [mx_free w 0 free, Nat.zero_add]
  rw [← e3, e, e2]
  refine Nat.le_trans ?_ (mx_suf p _ 0)
  refine Nat.le_trans ?_ (mx_pre _ q 0)
  refine Nat.le_trans ?_ (mx_suf p2 _ 0)
  exact mx_pre w q2 0
theorem line_part {t l : List Nat} (hl : l ∈ linesL t) : ∃ p q, t = p ++ (l ++ q) := by
  obtain ⟨_, p, q, e⟩ := spl_mem t [] (by simp) l hl
  exact ⟨p, q, e⟩
/-! ### what is the text of a yard -/
/-! ### texts and their signs -/
/-! ### the text of a yard, read again -/
/-! ### texts shown in quotes -/
theorem hex_ok {c : Nat} (k : Nat) : ∀ d ∈ List.replicate k 48 ++ (Nat.toDigits 16 c).map Char.toNat, d < 0x110000 := by
  intro d m
  rcases List.mem_append.mp m with m | m
  · rw [List.eq_of_mem_replicate m]; decide
  · obtain ⟨x, _, rfl⟩ := List.mem_map.mp m
    have := x.valid
    unfold Char.toNat
    rcases this with h | ⟨_, h⟩
    · exact Nat.lt_trans h (by decide)
    · exact h
theorem char_ok {q c : Nat} (hc : c < 0x110000) : ∀ d ∈ Builtin.Str.reprChar q c, d < 0x110000 := by
  intro d m
  unfold Builtin.Str.reprChar at m
  dsimp only at m
  have two : ∀ {a b : Nat}, a < 0x110000 → b < 0x110000 → d ∈ [a, b] → d < 0x110000 := fun ha hb m => by
    rcases List.mem_cons.mp m with rfl | m
    · exact ha
    · rw [List.mem_singleton.mp m]; exact hb
  split at m
  · exact two (by decide) hc m
  split at m
  · exact two (by decide) (by decide) m
  split at m
  · exact two (by decide) (by decide) m
  split at m
  · exact two (by decide) (by decide) m
  split at m
  · rw [List.mem_singleton.mp m]; exact hc
  split at m
  · rcases List.mem_append.mp m with m | m
    · exact two (by decide) (by decide) m
    · exact hex_ok _ d m
  split at m
  · rcases List.mem_append.mp m with m | m
    · exact two (by decide) (by decide) m
    · exact hex_ok _ d m
  · rcases List.mem_append.mp m with m | m
    · exact two (by decide) (by decide) m
    · exact hex_ok _ d m
theorem fold_ok {q : Nat} : ∀ (l : List Nat) (acc : Array Nat), (∀ c ∈ l, c < 0x110000) → (∀ c ∈ acc.toList, c < 0x110000) → ∀ c ∈ (l.foldl (fun out c => out ++ (Builtin.Str.reprChar q c).toArray) acc).toList, c < 0x110000
  | [], acc, _, h => h
  | a :: r, acc, hl, h => by
    rw [List.foldl_cons]
    refine fold_ok r _ (fun c m => hl c (List.mem_cons_of_mem _ m)) fun c m => ?_
    rw [Array.toList_append] at m
    rcases List.mem_append.mp m with m | m
    · exact h c m
    · exact char_ok (hl a List.mem_cons_self) c m
theorem quote_ok (x : Str) : reprQuote x < 0x110000 := by
  unfold reprQuote
  split <;> decide
theorem strOk_iff {x : Str} : PyData.strOk x = true ↔ ∀ c ∈ tl x, c < 0x110000 := by
  show x.cps.all (· < 0x110000) = true ↔ _
  rw [← Array.all_toList]
  rw [List.all_eq_true]
  exact ⟨fun h c m => of_decide_eq_true (h c m), fun h c m => decide_eq_true (h c m)⟩
theorem repr_ok {x : Str} (h : ∀ c ∈ tl x, c < 0x110000) : PyData.strOk (reprText x) = true := by
  rw [strOk_iff]
  unfold reprText
  intro c m
  have m : c ∈ ((x.cps.foldl (fun out c => out ++ (Builtin.Str.reprChar (reprQuote x) c).toArray) #[reprQuote x]).push (reprQuote x)).toList := m
  rw [Array.toList_push] at m
  rcases List.mem_append.mp m with m | m
  · rw [← Array.foldl_toList] at m
    refine fold_ok x.cps.toList _ h (fun d md => ?_) c m
    have : d ∈ [reprQuote x] := md
    rw [List.mem_singleton.mp this]
    exact quote_ok x
  · rw [List.mem_singleton.mp m]
    exact quote_ok x
end U
namespace U
open PySem PySem.Spec PyProof.Rows L2 TL

/-! ### a classmethod called in a try's body -/
section
variable {X : Cx} {CX : CXT} {k : Nat} {C f q g : Addr} {sp : Sp} {Q : VK} {us : List Value} {vs : List V} {pins : List (Addr × Obj)} {σ : L2.St} {H : Hp} {s : Shared}
end
/-! ### int(text), text.split(sign) -/
/-! ### the text of a yard, read again -/
/-- a text that may be read: not too long, its words neither, its signs signs -/
structure Tb (t : List Nat) : Prop where
  len : t.length ≤ 100000
  mx : mx 0 t ≤ 600
  ok : ∀ c ∈ t, c < 0x110000
theorem Tb.word {t l w : List Nat} (h : Tb t) (hl : l ∈ linesL t) (hw : w ∈ wordsL l) : w.length ≤ 640 := Nat.le_trans (word_mx hl hw) (Nat.le_trans h.mx (by decide))
theorem Tb.line {t l : List Nat} (h : Tb t) (hl : l ∈ linesL t) : l.length ≤ 100000 := by
  obtain ⟨p, q, e⟩ := line_part hl
  have := h.len
  have := congrArg List.length e
  simp only [List.length_append] at this
  omega
end U
namespace U
open PySem PySem.Spec PyProof.Rows L2

/-! ### max(ints, default=d) -/
def rMaxDf (K : PySem.W.Frag) : List V → List V → Hp → VK → Prop := fun xs zs H Q => ∃ (a : Addr) (ns : List Int) (d : V), xs = [.ref a] ∧ zs = [d] ∧ SqL K H a (ns.map V.int) ∧ (ns = [] → Q d H) ∧ ∀ m, m ∈ ns → (∀ y ∈ ns, y ≤ m) → Q (.int m) H
theorem reads_ints {h : Heap} : ∀ {ns : List Int} {us : List Value}, Vals (ns.map V.int) us → ReadsAll h us (ns.map PyData.int) [] := by
  intro ns
  induction ns with
  | nil =>
    intro us r
    cases r
    exact .nil
  | cons n t ih =>
    intro us r
    cases r with
    | cons r1 r2 =>
      obtain ⟨u, rfl⟩ := r1
      exact ReadsAll.cons (.int n u) (ih r2)
theorem fold_max : ∀ (t : List Int) (x : Int), t.foldl max x ∈ x :: t ∧ ∀ y ∈ x :: t, y ≤ t.foldl max x := by
  intro t
  induction t with
  | nil =>
    intro x
    refine ⟨List.mem_cons_self, fun y m => ?_⟩
    rw [List.mem_singleton.mp m]
    exact Int.le_refl _
  | cons k r ih =>
    intro x
    obtain ⟨h1, h2⟩ := ih (max x k)
    rw [List.foldl_cons]
    have hb := h2 (max x k) List.mem_cons_self
    refine ⟨?_, fun y m => ?_⟩
    · rcases List.mem_cons.mp h1 with e | m
      · rw [e]
        rcases Int.le_total x k with z | z
        · rw [Int.max_eq_right z]; simp
        · rw [Int.max_eq_left z]; simp
      · exact List.mem_cons_of_mem _ (List.mem_cons_of_mem _ m)
    · rcases List.mem_cons.mp m with rfl | m
      · exact Int.le_trans (Int.le_max_left _ _) hb
      · rcases List.mem_cons.mp m with rfl | m
        · exact Int.le_trans (Int.le_max_right _ _) hb
        · exact h2 y (List.mem_cons_of_mem _ m)
theorem call_maxDf {X : Cx} (hc : X.calm = true) (hu : X.A.units + 64 < cLine) : CallRK X (.builtin "max") ["default"] (rMaxDf X.K) := by
  intro pins s σ H xs zs us ws Q I rx rz h
  obtain ⟨a, ns, d, rfl, rfl, hs, q0, q1⟩ := h
  (obtain ⟨its, rv, hl, _⟩ := I.list hs)
  rw [Vals.ref1 rx]
  obtain ⟨w, rfl, rw⟩ := vals1 rz
  have dep : ∀ l : List Int, PyData.depthAll (l.map PyData.int) = 0 := fun l => by
    induction l with
    | nil => simp [PyData.depthAll]
    | cons x t ih => simp [PyData.depthAll, PyData.depth, ih]
  show wpAny (model X.prog X.w) X.A (call (.builtin "max") [.ref a] [(Str.ofString "default", w)]) _ _ s
  refine PySem.W.max_list_default (xs := ns.map PyData.int) (I.ok.hd hc) hl.isList (reads_ints rv) ⟨fun x mx y my => ?_, fun x mx => ?_⟩ (by rw [dep]; omega) (fun e h' tk k => ?_) (fun y ys i v h' tk bs e _ rd k => ?_)
  · obtain ⟨i, _, rfl⟩ := List.mem_map.mp mx
    obtain ⟨j, _, rfl⟩ := List.mem_map.mp my
    rfl
  · obtain ⟨i, _, rfl⟩ := List.mem_map.mp mx
    exact fun z => nomatch z
  · exact ⟨d, H, I.kept (t' := tk) k, rw, q0 (List.map_eq_nil_iff.mp e)⟩
  · cases ns with
    | nil => cases e
    | cons n t =>
      rw [List.map_cons] at e
      injection e with e1 e2
      subst e1 e2
      rw [PySem.W.maxD_ints] at rd
      obtain ⟨m1, m2⟩ := fold_max t n
      cases rd with
      | int _ u => exact ⟨.int _, H, I.kept (t' := tk) k, ⟨u, rfl⟩, q1 _ m1 m2⟩
/-! ### tuple[::-1] -/
section
variable {prog : Program} {w : World} {A : Around} {E : Value → Shared → Prop} {s : Shared}
theorem fm_congr {f g : Nat → Option Value} : ∀ {l : List Nat}, (∀ m ∈ l, f m = g m) → l.filterMap f = l.filterMap g
  | [], _ => rfl
  | a :: r, h => by
    have i := fm_congr (l := r) fun m hm => h m (List.mem_cons_of_mem _ hm)
    rw [List.filterMap_cons, List.filterMap_cons, h a List.mem_cons_self, i]
theorem all_pick (ys : List Value) : (List.range ys.length).filterMap (fun m => ys[m]?) = ys := by
  induction ys with
  | nil => rfl
  | cons y r ih =>
    rw [List.length_cons, List.range_succ_eq_map, List.filterMap_cons, List.filterMap_map]
    exact congrArg (y :: ·) ih
theorem back_pick (its : Array Value) : ((List.range its.size).filterMap fun (m : Nat) => its[(((its.size : Int) - 1) + (m : Int) * (-1)).toNat]?).toArray = its.toList.reverse.toArray := by
  congr 1
  have e : ∀ m ∈ List.range its.size, its[(((its.size : Int) - 1) + (m : Int) * (-1)).toNat]? = its.toList.reverse[m]? := fun m hm => by
    have lt := List.mem_range.mp hm
    rw [List.getElem?_reverse (by rw [Array.length_toList]; exact lt), Array.length_toList, Array.getElem?_toList]
    congr 1
    omega
  rw [fm_congr e]
  have l : its.size = its.toList.reverse.length := by rw [List.length_reverse, Array.length_toList]
  rw [l]
  exact all_pick _
theorem tup_back {t sl : Addr} {its : Array Value} {vl vu vs : Value} {Q : Value → Shared → Prop} (ht : IsTup s.heap t its) (hs : s.heap.IsSliceOf sl vl vu vs) (pl : IsPart vl none) (pu : IsPart vu none) (ps : IsPart vs (some (-1))) (hz : its.size ≤ sizeLine)
    (h : Q (.ref s.heap.objs.size) { s with heap := s.heap.push { cls := .type "tuple", data := .seq its.toList.reverse.toArray } }) : wpAny (model prog w) A (getItem (.ref t) (.ref sl)) Q E s := by
  obtain ⟨os, at_, cl, dt⟩ := id hs
  have tyS : s.TypeIs (.ref sl) "slice" := ⟨os, at_, cl⟩
  have okz : sizeOk (.seq its.toList.reverse.toArray) := by
    show its.toList.reverse.toArray.size ≤ sizeLine
    rw [List.size_toArray, List.length_reverse, Array.length_toList]
    exact hz
  unfold getItem
  (try with_reducible refine wpAny_holding ?_)
  (first | refine wpAny_bind (wpAny_pure ?_) | skip)
  (refine wpAny_bind (wpAny_sequenceKey ht.typeIs (by decide) ?_))
  refine wpAny_bind (wpAny_callSpecial?_slot (name := Str.ofString "__getitem__") ht.typeIs PyProof.Rows.slot_tuple_getitem (wpAny_call_entry PyProof.Rows.slot_tuple_getitem ht.typeIs entry_tuple_getitem ?_ (args_tuple_getitem _ _)))
  (show wpAny _ _ (Builtin.Tuple.tupleItemsOf (.ref t) >>= _) _ _ s)
  refine wpAny_bind (tupleItemsOf_ ht (wpAny_bind (wpAny_typeOf tyS ?_)))
  rw [if_pos (by decide)]
  refine wpAny_bind ?_
  (unfold Builtin.Slice.sliceApplied Builtin.Slice.sliceFields)
  refine wpAny_bind (wpAny_bind (wpAny_field at_ dt (x := vl) rfl (wpAny_bind (wpAny_field at_ dt (x := vu) rfl (wpAny_bind (wpAny_field at_ dt (x := vs) rfl (wpAny_pure ?_)))))))
  refine wpAny_bind (HT.slicePart_ ps ?_)
  show wpAny _ _ (if ((-1 : Int) == 0) = true then _ else _) _ _ s
  rw [if_neg (show ¬ ((-1 : Int) == 0) = true by decide)]
  refine wpAny_bind (HT.slicePart_ pl (wpAny_bind (HT.slicePart_ pu (wpAny_bind (wpAny_pure ?_)))))
  have e1 : Builtin.Slice.sliceAdjust none none (-1) (its.size : Int) = ((its.size : Int) - 1, -1) := by
    (unfold Builtin.Slice.sliceAdjust)
    rfl
  have e2 : Builtin.Slice.slicePlaces ((its.size : Int) - 1) (-1) (-1) = its.size := by
    (unfold Builtin.Slice.slicePlaces)
    rw [if_neg (by decide)]
    split
    · have : ((its.size : Int) - 1 - -1 - 1) / (- -1) = (its.size : Int) - 1 := by
        have : (- -1 : Int) = 1 := by decide
        rw [this, Int.ediv_one]
        omega
      rw [this]
      omega
    · omega
  show wpAny _ _ (match Builtin.Slice.sliceAdjust none none (-1) (its.size : Int) with | (lo, hi) => pure (lo, (-1 : Int), Builtin.Slice.slicePlaces lo hi (-1))) _ _ s
  rw [e1]
  show wpAny _ _ (pure ((its.size : Int) - 1, (-1 : Int), Builtin.Slice.slicePlaces ((its.size : Int) - 1) (-1) (-1))) _ _ s
  rw [e2]
  refine wpAny_pure ?_
  show wpAny _ _ (if (((its.size : Int) - 1 == 0 && (-1 : Int) == 1 && its.size == its.size)) = true then _ else _) _ _ s
  rw [if_neg (by rw [show ((-1 : Int) == 1) = false from by decide, Bool.and_false, Bool.false_and]; decide), back_pick]
  first
    | exact wpAny_bind (m := Builtin.Tuple.tupleExact _) (wpAny_newObj_type (wpAny_pure ⟨_, rfl, wpAny_pure h⟩) okz)
    | exact wpAny_bind (m := Builtin.Tuple.tupleExact _) (wpAny_newObj_type (wpAny_bind (wpAny_pure (wpAny_pure ⟨_, rfl, wpAny_pure h⟩))) okz)
    | exact wpAny_bind (wpAny_bind (m := Builtin.Tuple.tupleExact _) (wpAny_newObj_type (wpAny_pure (wpAny_pure ⟨_, rfl, wpAny_pure h⟩)) okz))
    | exact wpAny_bind (wpAny_bind (m := Builtin.Tuple.tupleExact _) (wpAny_newObj_type (wpAny_pure ⟨_, rfl, wpAny_pure h⟩) okz))
end
def tRevT (K : PySem.W.Frag) (te : TE) : TE := fun σ H Q => te σ H fun x H1 => ∃ a xs, x = .ref a ∧ SqT K H1 a xs ∧ ∀ p, H1 p = none → Q (.ref p) (upd H1 p (.tup xs.reverse))
theorem pe_revT {X : Cx} {e : Expr} {te : TE} {k : Nat} {p1 p2 p3 pos : Pos} (he : PE X e te) : PE X (.Subscript e (.Slice none none (some (.UnaryOp .USub (.Constant (.int 1) k p1) p2)) p3) pos) (tRevT X.K te) := by
  refine .mk ?_
  intro pins s σ H Q I h
  refine Subscript_ (thn (he.run pins s σ H _ I h) fun v s1 out => ?_)
  obtain ⟨x, H1, I1, r1, a, xs, rfl, hx, q⟩ := out
  cases r1
  have neg1 : PO X (some (.UnaryOp .USub (.Constant (.int 1) k p1) p2)) (tPart (tUn (rU fun i => .int (-i)) (tC (.int 1)))) := po_some (pe_un un_neg pe_int)
  refine wpAny_Slice (thn (po_none.run pins s1 σ H1 (fun o H2 => o = none ∧ H2 = H1) I1 ⟨rfl, rfl⟩) fun vl s2 out => ?_)
  obtain ⟨l, H2, I2, pl, rfl, rfl⟩ := out
  refine thn (po_none.run pins s2 σ H2 (fun o H3 => o = none ∧ H3 = H2) I2 ⟨rfl, rfl⟩) fun vu s3 out => ?_
  obtain ⟨u, H3, I3, pu, rfl, rfl⟩ := out
  refine thn (neg1.run pins s3 σ H3 (fun o H4 => o = some (-1) ∧ H4 = H3) I3 ⟨1, rfl, -1, rfl, rfl, rfl⟩) fun vs s4 out => ?_
  obtain ⟨o, H4, I4, ps, rfl, rfl⟩ := out
  have I5 : Inv X pins σ H4 { s4 with heap := s4.heap.push { cls := .type "slice", data := .fields #[vl, vu, vs] } } := I4.kept (t' := s4.toks) fun b ob z => Heap.get?_push_of_some _ z
  obtain ⟨its, r, ht, hz⟩ := I5.tuple hx
  (have hlen : its.toArray.size = xs.length := by rw [List.size_toArray]; exact r.length.symm)
  (show wpAny (model X.prog X.w) X.A (subscriptTail e (.Slice none none (some (.UnaryOp .USub (.Constant (.int 1) k p1) p2)) p3) (.ref a) (.ref s4.heap.objs.size)) (EP X pins σ Q) X.xe { s4 with heap := s4.heap.push { cls := .type "slice", data := .fields #[vl, vu, vs] } })
  refine tail_any (ops := [.ref a, .ref s4.heap.objs.size]) ht.typeIs PyProof.Rows.slot_tuple_getitem.lookup ?_ (by with_unfolding_all rfl)
  refine tup_back ht (Heap.IsSliceOf.new _ vl vu vs) pl pu ps (by rw [hlen]; exact hz) ?_
  refine ⟨.ref _, _, I5.laid (t' := s4.toks) (o := .tup xs.reverse) (fun b ob z => Heap.get?_push_of_some _ z) (Nat.le_refl _) ?_, rfl, q _ (I5.hok.fresh (Nat.le_refl _))⟩
  exact ⟨by rw [List.length_reverse]; exact hz, _, r.reverse, IsTup.new _ _⟩
end U
namespace U
open PySem PySem.Spec PyProof.Rows L2 TL

section
variable {K : PySem.W.Frag} (F : KF K) {vs : List V} {H : Hp} {Q : VK} {E : XK}
local macro_rules | `(tactic| walk_at "w") => `(tactic| try simp only [turnE, lcT, Snoc, tRet, tRetN, tAndV, tOrV, tNotV, tCB, tCons, tVar, tNil, tC, tOp, tSeq, tAsg, gName, gSub, tIfS, tDrop, tFn, tTup, tLst, tNext, tB, tTest, tNot, tAnd, tOr, tIf, tChain, tUn, rU, tFld, tPart, tNoPart, L2.tSl, tBM, tPar, tPar3, tTruth, tDNewK,
  L2.start, List.map_cons, List.map_nil, List.length_cons, List.length_nil, List.replicate_succ, List.replicate_zero, List.append_nil, List.nil_append, List.cons_append, List.singleton_append, Nat.sub_self, Nat.zero_add, Nat.reduceAdd, Nat.reduceSub,
  List.getElem?_cons_zero, List.getElem?_cons_succ, List.set_cons_zero, List.set_cons_succ, Option.some.injEq, exists_eq_left, exists_eq_left', V.int.injEq, V.bl.injEq, V.str.injEq, V.ref.injEq,
  uAdd_int, uAdd_str, uSub_int, uMul_int, uMul_str, uDiv_int, uMod_int, uPow_int, uLt_int, uLe_int, uGt_int, uGe_int, uIs_non, uNis_non, uIs_bl, uNis_bl, sp1, sp2, sp3, sp4, uEq_int, uEq_str, uNe_int, uNe_str, uSl_str, uLen_str, decide_eq_true_eq])
local macro_rules | `(tactic| walk_at "1") => `(tactic| try simp only [turnE, lcT, Snoc, tRet, tRetN, tAndV, tOrV, tNotV, tCB, tCons, tVar, tNil, tC, tOp, tAsg, gName, gSub, tIfS, tDrop, tFn, tTup, tLst, tNext, tB, tTest, tNot, tAnd, tOr, tIf, tChain, tUn, rU, tFld, tPart, tNoPart, L2.tSl, tBM, tPar, tPar3, tTruth, tDNewK,
  L2.start, List.map_cons, List.map_nil, List.length_cons, List.length_nil, List.replicate_succ, List.replicate_zero, List.append_nil, List.nil_append, List.cons_append, List.singleton_append, Nat.sub_self, Nat.zero_add, Nat.reduceAdd, Nat.reduceSub,
  List.getElem?_cons_zero, List.getElem?_cons_succ, List.set_cons_zero, List.set_cons_succ, Option.some.injEq, exists_eq_left, exists_eq_left', V.int.injEq, V.bl.injEq, V.str.injEq, V.ref.injEq,
  uAdd_int, uAdd_str, uSub_int, uMul_int, uMul_str, uDiv_int, uMod_int, uPow_int, uLt_int, uLe_int, uGt_int, uGe_int, uIs_non, uNis_non, uIs_bl, uNis_bl, sp1, sp2, sp3, sp4, uEq_int, uEq_str, uNe_int, uNe_str, uSl_str, uLen_str, decide_eq_true_eq])
local macro_rules | `(tactic| walk_at "s") => `(tactic| ((try dsimp only [turnE]); with_reducible refine seq_ ?_))

theorem tLc_inN {t : TE} {g : TG} {tt : TT} {te : TE} {vs : List Nat} {σ : L2.St} {H : Hp} {Q : VK} (h : t σ H fun x H1 => ∃ a, x = .ref a ∧ (∃ xs, SqL K H1 a xs) ∧ ∀ D, H1 D = none → LcB (Itl K a) g tt te vs σ H1 D (Q (.ref D))) : tLc (iSeq K t) g tt te vs σ H Q := .inl h
end
end U
namespace U
open PySem PySem.Spec PyProof.Rows L2

/-! ### zip of two of lists and tuples, in any mix but (tuple, list) -/
def iZipV (K : PySem.W.Frag) (ta : TA) : TI := fun σ H R => iZipU K ta σ H R ∨ RZ.iZipA K ta σ H R
theorem pi_zipV {X : Cx} {f1 f2 : Expr} {ta : TA} {p pos tpos : Pos} {elts : List Expr} {kk : Nat} (hg : Gl X "zip") (hm : X.mg "zip" = none) (ha : PA X [f1, f2] ta)
    (hs : starEach [f1, f2] X.env = (false, eval f1 X.env) :: starEach [f2] X.env := by rfl) (hpl : (backTo pos (starEach [f2] X.env)).any (·.1) = false := by rfl) :
    PI X (.Tuple elts kk tpos) (.Call (.Name "zip" p) [f1, f2] [] pos) (iZipV X.K ta) := by
  refine .mk ?_
  intro pins s σ H R I h
  rcases h with h | h
  · exact (pi_zipU hg hm ha hs hpl).run pins s σ H R I h
  · exact (RZ.pi_zipA hg hm ha hs hpl).run pins s σ H R I h
theorem zipped_TT {K : PySem.W.Frag} {a b : Addr} {xs ys : List V} : Zipped (RZ.ItzT K a b) xs ys fun H => SqT K H a xs ∧ SqT K H b ys where
  go := fun i H g l1 l2 => ⟨xs, ys, xs[i], ys[i], g.1, g.2, List.getElem?_eq_getElem l1, List.getElem?_eq_getElem l2⟩
  yld := fun i H v H' g ⟨T, x, y, h1, h2, h3, h4, h5⟩ => ⟨T, x, y, h1, h2, h3, h4 xs g.1, h5 ys g.2⟩
  stop := fun i H g l1 l2 e => ⟨xs, ys, g.1, g.2, by omega⟩
/-! ### xs[::-1], a list or a tuple -/
def tRevU (K : PySem.W.Frag) (te : TE) : TE := fun σ H Q => tRevL K te σ H Q ∨ tRevT K te σ H Q
theorem pe_revU {X : Cx} {e : Expr} {te : TE} {k : Nat} {p1 p2 p3 pos : Pos} (he : PE X e te) : PE X (.Subscript e (.Slice none none (some (.UnaryOp .USub (.Constant (.int 1) k p1) p2)) p3) pos) (tRevU X.K te) := by
  refine .mk ?_
  intro pins s σ H Q I h
  rcases h with h | h
  · exact (pe_revL he).run pins s σ H Q I h
  · exact (pe_revT he).run pins s σ H Q I h
/-! ### i << j -/
def uShl : R2 := fun x y H Q => match x, y with
  | .int i, .int j => CShl i j ∧ Q (.int (i * 2 ^ j.toNat)) H
  | _, _ => False
theorem op_uShl {X : Cx} : OpR X (binaryOp .LShift) uShl := by
  intro pins s σ H x y u v Q I rx ry h
  cases x <;> cases y <;> first
    | exact (show False from h).elim
    | exact op_shlW pins s σ H _ _ u v Q I rx ry ⟨_, _, rfl, rfl, h⟩
theorem cshl_of {i : Int} {j : Nat} (h : i.natAbs < 10 ^ 33) (hj : j ≤ 1000) : CShl i (j : Nat) := by
  refine ⟨by omega, ?_⟩
  have b : Builtin.Int.intBits i ≤ i.natAbs.log2 + 1 := by
    unfold Builtin.Int.intBits
    split <;> omega
  have l : i.natAbs.log2 < 128 := by
    by_cases z : i.natAbs = 0
    · rw [z]; decide
    · exact (Nat.log2_lt z).mpr (Nat.lt_of_lt_of_le h (by decide))
  have : (2 : Int) ^ 27 = 134217728 := by decide
  omega
end U
namespace U
open PySem PySem.Spec PyProof.Rows L2

/-! ### zip(text, list, list) -/
def Itz3 (K : PySem.W.Frag) (x : Str) (a b : Addr) : It :=
  ⟨fun i H => ∃ xs ys u v, SqL K H a xs ∧ (SqL K H b ys ∧ (i < x.cps.size ∧ (xs[i]? = some u ∧ ys[i]? = some v))),
    fun i H w H' => ∃ T c u v, w = .ref T ∧ (H T = none ∧ (H' = upd H T (.tup [.str ⟨#[c]⟩, u, v]) ∧ (x.cps[i]? = some c ∧ ((∀ xs, SqL K H a xs → xs[i]? = some u) ∧ ∀ ys, SqL K H b ys → ys[i]? = some v)))),
    fun i H => ∃ xs ys, SqL K H a xs ∧ (SqL K H b ys ∧ (i ≤ x.cps.size ∧ (i ≤ xs.length ∧ (i ≤ ys.length ∧ (i = x.cps.size ∨ (i = xs.length ∨ i = ys.length))))))⟩
/-- the six cells, and the two lists -/
structure Z3Cells (z TI TO i1 i2 i3 a b : Addr) : Prop where
  s : ZipSep3 z TI TO i1 i2 i3 [i1] [i2, a] [i3, b]
  a2 : a ≠ i2
  b3 : b ≠ i3
  e1 : TI ≠ TO
theorem not_in1 {x y : Addr} (h : x ≠ y) : x ∉ [y] := fun m => h (List.mem_singleton.mp m)
theorem not_in2 {x y z : Addr} (h : x ≠ y) (g : x ≠ z) : x ∉ [y, z] := fun m => (List.mem_cons.mp m).elim h fun m => g (List.mem_singleton.mp m)
theorem z3_new (n a b : Nat) (la : a < n) (lb : b < n) : Z3Cells (n + 5) (n + 3) (n + 4) n (n + 1) (n + 2) a b where
  s := {
    TIz := by show ¬ ((n + 3 : Nat) = n + 5); omega
    TOz := by show ¬ ((n + 4 : Nat) = n + 5); omega
    TITO := by show ¬ ((n + 3 : Nat) = n + 4); omega
    TIi1 := by show ¬ ((n + 3 : Nat) = n); omega
    mem1 := List.mem_cons_self
    zf1 := not_in1 (by show ¬ ((n + 5 : Nat) = n); omega)
    Tf1 := not_in1 (by show ¬ ((n + 4 : Nat) = n); omega)
    TIi2 := by show ¬ ((n + 3 : Nat) = n + 1); omega
    mem2 := List.mem_cons_self
    zf2 := not_in2 (by show ¬ ((n + 5 : Nat) = n + 1); omega) (by show ¬ ((n + 5 : Nat) = a); omega)
    Tf2 := not_in2 (by show ¬ ((n + 4 : Nat) = n + 1); omega) (by show ¬ ((n + 4 : Nat) = a); omega)
    TIi3 := by show ¬ ((n + 3 : Nat) = n + 2); omega
    mem3 := List.mem_cons_self
    zf3 := not_in2 (by show ¬ ((n + 5 : Nat) = n + 2); omega) (by show ¬ ((n + 5 : Nat) = b); omega)
    Tf3 := not_in2 (by show ¬ ((n + 4 : Nat) = n + 2); omega) (by show ¬ ((n + 4 : Nat) = b); omega)
    sep1_2 := not_in2 (by show ¬ ((n : Nat) = n + 1); omega) (by show ¬ ((n : Nat) = a); omega)
    sep1_3 := not_in2 (by show ¬ ((n : Nat) = n + 2); omega) (by show ¬ ((n : Nat) = b); omega)
    sep2_1 := not_in1 (by show ¬ ((n + 1 : Nat) = n); omega)
    sep2_3 := not_in2 (by show ¬ ((n + 1 : Nat) = n + 2); omega) (by show ¬ ((n + 1 : Nat) = b); omega)
    sep3_1 := not_in1 (by show ¬ ((n + 2 : Nat) = n); omega)
    sep3_2 := not_in2 (by show ¬ ((n + 2 : Nat) = n + 1); omega) (by show ¬ ((n + 2 : Nat) = a); omega) }
  a2 := by show ¬ (a = n + 1); omega
  b3 := by show ¬ (b = n + 2); omega
  e1 := by show ¬ (n + 3 = n + 4); omega
theorem six_in {z TI TO i1 i2 i3 q : Addr} (h : q ∈ [z, TI, TO, i1, i2, i3]) : q = z ∨ (q = TI ∨ (q = TO ∨ (q = i1 ∨ (q = i2 ∨ q = i3)))) := by simpa using h
theorem turn_zip3 {P : Program} {w : World} {K : PySem.W.Frag} {el : List Expr} {kk : Nat} {tp : Pos} {x : Str} {t : Tok} {a b z TI TO i1 i2 i3 : Addr} (C : Z3Cells z TI TO i1 i2 i3 a b) :
    Turn P w K (.Tuple el kk tp) (Itz3 K x a b) [z, TI, TO, i1, i2, i3] z (fun i h => IsZip h z TI TO .none ∧ (IsTupOf3 h TI (.ref i1) (.ref i2) (.ref i3) ∧ ((∃ c u v, IsTupOf3 h TO c u v) ∧ (h.IsStrIter i1 (strIterType x) x t i ∧ (h.IsListIter i2 a i ∧ h.IsListIter i3 b i))))) where
  mem := by simp
  obj := fun i h st c hc => by
    obtain ⟨g1, g2, ⟨_, _, _, g3⟩, ⟨o1, e1, _, d1⟩, ⟨o2, e2, _, d2⟩, ⟨o3, e3, _, d3⟩⟩ := st
    rcases six_in hc with q | q | q | q | q | q <;> rw [q]
    · exact ⟨_, g1, fun v q => nomatch q⟩
    · exact ⟨_, g2, fun v q => nomatch q⟩
    · exact ⟨_, g3, fun v q => nomatch q⟩
    · refine ⟨o1, e1, fun v q => ?_⟩
      rw [d1] at q
      cases q
    · refine ⟨o2, e2, fun v q => ?_⟩
      rw [d2] at q
      cases q
    · refine ⟨o3, e3, fun v q => ?_⟩
      rw [d3] at q
      cases q
  keep := fun i h h' st k => by
    obtain ⟨g1, g2, ⟨c, u, v, g3⟩, ⟨o1, e1, r1⟩, g5, g6⟩ := st
    exact ⟨k _ (by simp) _ g1, k _ (by simp) _ g2, ⟨c, u, v, k _ (by simp) _ g3⟩, ⟨o1, k _ (by simp) _ e1, r1⟩, g5.at fun o y => k _ (by simp) o y, g6.at fun o y => k _ (by simp) o y⟩
  item := by
    intro X hP hw hK hc
    intro i pins s σ H E I hf st hg
    subst hP hw hK
    obtain ⟨g1, g2, ⟨_, _, _, g3⟩, g4, g5, g6⟩ := st
    obtain ⟨xs, ys, u0, v0, qx, qy, hi, hx, hy⟩ := hg
    obtain ⟨us, r1, p1, _⟩ := I.list qx
    obtain ⟨vs, r2, p2, _⟩ := I.list qy
    obtain ⟨u, hu, ru⟩ := r1.get hx
    obtain ⟨v, hv, rv⟩ := r2.get hy
    have zl : z < s.heap.objs.size := Heap.lt_size g1
    have D1 := Draws.text (prog := X.prog) (w := X.w) (A := X.A.in1) (I.ok.hd hc) i1 x t
    have D2 := Draws.list (prog := X.prog) (w := X.w) (A := X.A.in1) (I.ok.hd hc) i2 a C.a2 us.toArray
    have D3 := Draws.list (prog := X.prog) (w := X.w) (A := X.A.in1) (I.ok.hd hc) i3 b C.b3 vs.toArray
    have lu : i < us.toArray.size := by simpa using (List.getElem?_eq_some_iff.mp hu).1
    have lv : i < vs.toArray.size := by simpa using (List.getElem?_eq_some_iff.mp hv).1
    refine wpAny_pyNext_zipD3_item C.s D1 D2 D3 g1 g2 g3 g4 ⟨g5, p1.isList⟩ ⟨g6, p2.isList⟩ hi lu lv fun y1 y2 y3 h1 tk ec ex ey z1 t1 s1 s2 s3 hT hsz hk => ?_
    obtain ⟨c, tc, hcp, rfl⟩ := ec
    obtain rfl : y2 = u := by
      have ex : us.toArray[i]? = some y2 := ex
      simp [hu] at ex
      exact ex.symm
    obtain rfl : y3 = v := by
      have ey : vs.toArray[i]? = some y3 := ey
      simp [hv] at ey
      exact ey.symm
    refine ⟨_, rfl, wpAny_letOwnedTupleGo_zip (s := { s with heap := h1, toks := tk }) z1 fun h2 z2 sb => ?_⟩
    have T2 : h2.get? s.heap.objs.size = some { cls := .type "tuple", data := .seq #[.str ⟨#[c]⟩ tc, y2, y3] } := (sb.2 _ (Nat.ne_of_gt zl)).trans hT
    have rc : RelV (.str ⟨#[c]⟩) (Value.str ⟨#[c]⟩ tc) := ⟨tc, rfl⟩
    have new : ObjOk X.prog X.w (upd H s.heap.objs.size (.tup [.str ⟨#[c]⟩, u0, v0])) h2 s.heap.objs.size (.tup [.str ⟨#[c]⟩, u0, v0]) := ⟨by show 3 ≤ sizeLine; decide, [.str ⟨#[c]⟩ tc, y2, y3], .cons rc (.cons ru (.cons rv .nil)), ⟨_, T2, rfl, _, rfl⟩⟩
    have k2 : ∀ d o, d ≠ z → d ≠ TO → d ≠ i1 → d ≠ i2 → d ≠ i3 → s.heap.get? d = some o → h2.get? d = some o := fun d o c1 c2 c3 c4 c5 e => (sb.2 d c1).trans (hk d o c1 c2 c3 c4 c5 e)
    have I1 : Inv X pins σ (upd H s.heap.objs.size (.tup [.str ⟨#[c]⟩, u0, v0])) { s with heap := h2, toks := tk } :=
      I.turnedNew (ch := [z, TI, TO, i1, i2, i3]) (fun d o hb => k2 d o (fun e => hb (by simp [e])) (fun e => hb (by simp [e])) (fun e => hb (by simp [e])) (fun e => hb (by simp [e])) fun e => hb (by simp [e])) hf (Nat.le_refl _) new
    refine ⟨.ref s.heap.objs.size, _, I1, rfl, ⟨_, c, u0, v0, rfl, I.hok.fresh (Nat.le_refl _), rfl, hcp, fun l hl => ?_, fun l hl => ?_⟩, ⟨z2, k2 _ _ C.s.TIz C.e1 C.s.TIi1 C.s.TIi2 C.s.TIi3 g2, ⟨_, _, _, (sb.2 _ C.s.TOz).trans t1⟩, ?_, ?_, ?_⟩, fun d hcm => ?_⟩
    · rw [I.list_inj hl qx]
      exact hx
    · rw [I.list_inj hl qy]
      exact hy
    · obtain ⟨o, ho, r⟩ := s1
      exact ⟨o, (sb.2 _ C.s.zi1.symm).trans ho, r⟩
    · exact s2.1.at fun o q => (sb.2 _ C.s.zi2.symm).trans q
    · exact s3.1.at fun o q => (sb.2 _ C.s.zi3.symm).trans q
    · have below : d < s.heap.objs.size := by
        rcases six_in hcm with q | q | q | q | q | q
        · exact q ▸ zl
        · exact q ▸ Heap.lt_size g2
        · exact q ▸ Heap.lt_size g3
        · obtain ⟨_, e, _⟩ := g4
          exact q ▸ Heap.lt_size e
        · obtain ⟨_, e, _⟩ := g5
          exact q ▸ Heap.lt_size e
        · obtain ⟨_, e, _⟩ := g6
          exact q ▸ Heap.lt_size e
      rw [upd_ne (Nat.ne_of_lt below)]
      exact (hf d hcm).1
  done := by
    intro X hP hw hK hc
    intro i pins s σ H E I hf st hg
    subst hP hw hK
    obtain ⟨g1, g2, ⟨_, _, _, g3⟩, g4, g5, g6⟩ := st
    obtain ⟨xs, ys, qx, qy, l0, l1, l2, l3⟩ := hg
    obtain ⟨us, r1, p1, _⟩ := I.list qx
    obtain ⟨vs, r2, p2, _⟩ := I.list qy
    have e1 := r1.length
    have e2 := r2.length
    have D1 := Draws.text (prog := X.prog) (w := X.w) (A := X.A.in1) (I.ok.hd hc) i1 x t
    have D2 := Draws.list (prog := X.prog) (w := X.w) (A := X.A.in1) (I.ok.hd hc) i2 a C.a2 us.toArray
    have D3 := Draws.list (prog := X.prog) (w := X.w) (A := X.A.in1) (I.ok.hd hc) i3 b C.b3 vs.toArray
    refine wpAny_pyNext_zipD3_end C.s D1 D2 D3 g1 g2 g3 g4 ⟨g5, p1.isList⟩ ⟨g6, p2.isList⟩ l0 (by simp; omega) (by simp; omega) (by simp; omega) fun h1 tk hk => ⟨rfl, I.turnedL (ch := [z, TI, TO, i1, i2, i3]) (fun d o hb => hk d o (fun e => hb (by simp [e])) (fun e => hb (by simp [e])) (fun e => hb (by simp [e])) (fun e => hb (by simp [e])) fun e => hb (by simp [e])) hf⟩
  self := fun _ _ _ _ _ st h => wpAny_pyIter_zip st.1 h
def iZip3 (K : PySem.W.Frag) (ta : TA) : TI := fun σ H R => ta σ H fun vs H1 => ∃ x a b xs ys, vs = [.str x, .ref a, .ref b] ∧ (SqL K H1 a xs ∧ (SqL K H1 b ys ∧ R (Itz3 K x a b) H1))
theorem pi_zip3 {X : Cx} {f1 f2 f3 : Expr} {ta : TA} {p pos tpos : Pos} {elts : List Expr} {kk : Nat} (hg : Gl X "zip") (hm : X.mg "zip" = none) (ha : PA X [f1, f2, f3] ta)
    (hs : starEach [f1, f2, f3] X.env = (false, eval f1 X.env) :: starEach [f2, f3] X.env := by rfl) (hpl : (backTo pos (starEach [f2, f3] X.env)).any (·.1) = false := by rfl) :
    PI X (.Tuple elts kk tpos) (.Call (.Name "zip" p) [f1, f2, f3] [] pos) (iZip3 X.K ta) := by
  refine .mk ?_
  intro pins s σ H R I h
  refine Call_ (ld_blt I hg hm boot_zip (PyProof.Rows.callWith_type1 (thn (ha.run pos pins s σ H _ I h) fun us s1 q0 => ?_) hs hpl))
  obtain ⟨vs, H1, I1, r1, x, a, b, xs, ys, ex, qx, qy, q⟩ := q0
  subst ex
  obtain ⟨t, rfl⟩ : ∃ t, us = [.str x t, .ref a, .ref b] := by
    cases r1 with
    | cons r r2 =>
      cases r2 with
      | cons r' r3 =>
        cases r3 with
        | cons r'' r4 =>
          cases r4
          obtain ⟨t, rfl⟩ := r
          cases r'
          cases r''
          exact ⟨t, rfl⟩
  obtain ⟨xv, rv, p1, _⟩ := I1.list qx
  obtain ⟨yv, rw', p2, _⟩ := I1.list qy
  refine zip_begins3 (begins_text x t) (begins_list a xv.toArray) (begins_list b yv.toArray) trivial p1.isList p2.isList fun h1 hz hTI hTO g1 g2 g3 hsz hk => wpAny_pyIter_zip hz ?_
  have I2 : Inv X pins σ H1 { s1 with heap := h1 } := I1.kept (t' := s1.toks) hk
  have C : Z3Cells (s1.heap.objs.size + 5) (s1.heap.objs.size + 3) (s1.heap.objs.size + 4) s1.heap.objs.size (s1.heap.objs.size + 1) (s1.heap.objs.size + 2) a b := z3_new s1.heap.objs.size a b p1.lt p2.lt
  refine ⟨s1.heap.objs.size + 5, [s1.heap.objs.size + 5, s1.heap.objs.size + 3, s1.heap.objs.size + 4, s1.heap.objs.size, s1.heap.objs.size + 1, s1.heap.objs.size + 2], _, _, H1, rfl, I2, turn_zip3 (x := x) (t := t) C, ⟨hz, hTI, ⟨_, _, _, hTO⟩, ⟨_, g1, rfl, rfl⟩, ⟨_, g2, rfl, rfl⟩, ⟨_, g3, rfl, rfl⟩⟩, fun c hcm => ?_, q⟩
  have above : s1.heap.objs.size ≤ c := by
    rcases six_in hcm with e | e | e | e | e | e <;> rw [e]
    · exact Nat.le_add_right _ 5
    · exact Nat.le_add_right _ 3
    · exact Nat.le_add_right _ 4
    · exact Nat.le_refl _
    · exact Nat.le_add_right _ 1
    · exact Nat.le_add_right _ 2
  exact I1.fpOk above (I1.hok.fresh above)
/-! ### a loop over such threes -/
theorem for_zip3 {K : PySem.W.Frag} {x : Str} {a b : Addr} {xs ys : List V} {wi : TI} {g : TG} {tb : TS} {D : Ends} {σ : L2.St} {H : Hp} (hw : ∀ R : It → Hp → Prop, R (Itz3 K x a b) H → wi σ H R) (lx : x.cps.size ≤ xs.length) (ly : x.cps.size ≤ ys.length) (Pv : Nat → L2.St → Hp → Prop) (h0 : Pv 0 σ H) (hG : ∀ i τ H', Pv i τ H' → SqL K H' a xs ∧ SqL K H' b ys)
    (hs : ∀ i c u v τ H' T, x.cps[i]? = some c → xs[i]? = some u → ys[i]? = some v → Pv i τ H' → H' T = none → g (.ref T) τ (upd H' T (.tup [.str ⟨#[c]⟩, u, v])) fun ρ H2 => tb (turnE D (Pv (i + 1))) ρ H2) (hd : ∀ τ H', Pv x.cps.size τ H' → D.nx τ H') : tFor wi g tb D σ H := by
  refine hw _ ?_
  refine ⟨fun i m τ H' => m = x.cps.size - i ∧ (i ≤ x.cps.size ∧ Pv i τ H'), ⟨_, rfl, Nat.zero_le _, h0⟩, ?_⟩
  rintro i m τ H' ⟨rfl, hi, p⟩
  obtain ⟨q1, q2⟩ := hG i τ H' p
  by_cases lt : i < x.cps.size
  · refine .inr ⟨⟨xs, ys, xs[i], ys[i], q1, q2, lt, List.getElem?_eq_getElem (by omega), List.getElem?_eq_getElem (by omega)⟩, Pv (i + 1), fun σ' H2 p' => ⟨x.cps.size - (i + 1), by omega, rfl, lt, p'⟩, fun v H2 yd => ?_⟩
    obtain ⟨T, c, u, w, rfl, nT, rfl, hc, e1, e2⟩ := yd
    exact hs i c u w τ H' T hc (e1 xs q1) (e2 ys q2) p nT
  · have e : i = x.cps.size := by omega
    subst e
    exact .inl ⟨⟨xs, ys, q1, q2, Nat.le_refl _, by omega, ly, .inl rfl⟩, hd τ H' p⟩
end U
namespace U
open PySem PySem.Spec PyProof.Rows L2

/-! ### != of two lists whose items are all alike, within one model -/
section
open PySem.SeqAt AutoSeq1 MeetsSeq MeetsSeq2 MeetsSeq3 SeqRoads2
variable {prog : Program} {w : World} -- both
end
/-! ### min of pairs of a number and a text -/
end U
namespace U
open PySem PySem.Spec PySem.Calls PyProof.Rows L2

/-! ### f(k = v, ..): all arguments by their names -/
section
variable {X : Cx} {CX : CXT} {k : Nat} {x : Str} {fd : FuncData} {f : Addr} {ps ks : List Str} {sp : Sp} {E : XK} {p pos : Pos} {kws : List Keyword} {tk : TA} {g : List Value → List Value → List Value} {gV : List V → List V → List V}
end
/-! ### len of a dict -/
def rLenD : List V → Hp → VK → Prop := fun xs H Q => ∃ (a : Addr) (kvs : List (Key × V)), xs = [V.ref a] ∧ H a = some (.dK kvs) ∧ Q (.int kvs.length) H
theorem call_lenD' {X : Cx} : CallR X (.builtin "len") rLenD := call_lenD
end U
namespace U
open PySem PySem.Spec PyProof.Rows L2

/-! ### levels: six numbers, by two places -/
def six {α : Type} (f : Nat → Nat → α) : List α := waysN.map fun w => f w.1 w.2
/-- the two lines of a crate -/
def lineS (p D : Nat → Nat → Int) (i j : Nat) : Int := D i (3 - i - j) + p i j + D (3 - i - j) j
def lineT2 (p D : Nat → Nat → Int) (i j : Nat) : Int := D i j + p i (3 - i - j) + D j i + p (3 - i - j) j + D i j
def stepN (p D : Nat → Nat → Int) (i j : Nat) : Int := min (lineS p D i j) (lineT2 p D i j)
def levelN : List (Nat → Nat → Int) → Nat → Nat → Int
  | [], _, _ => 0
  | p :: r, i, j => stepN p (levelN r) i j
/-! ### the same with None -/
def osum : List (Option Int) → Option Int
  | [] => some 0
  | none :: _ => none
  | some a :: r => (osum r).map (a + ·)
def omin : Option Int → Option Int → Option Int
  | none, b => b
  | a, none => a
  | some a, some b => some (min a b)
def oline1 (p D : Nat → Nat → Option Int) (i j : Nat) : Option Int := osum [D i (3 - i - j), p i j, D (3 - i - j) j]
def oline2 (p D : Nat → Nat → Option Int) (i j : Nat) : Option Int := osum [D i j, p i (3 - i - j), D j i, p (3 - i - j) j, D i j]
def stepO (p D : Nat → Nat → Option Int) (i j : Nat) : Option Int := omin (oline1 p D i j) (oline2 p D i j)
/-- the level of some crates, the last one first -/
def levelO : List (Nat → Nat → Option Int) → Nat → Nat → Option Int
  | [], _, _ => some 0
  | p :: r, i, j => stepO p (levelO r) i j
/-- a number stands for a cost -/
def Stands (B M : Int) (c : Option Int) (n : Int) : Prop := match c with
  | some v => n = v ∧ 0 ≤ v ∧ v ≤ M
  | none => B ≤ n
theorem Stands.nonneg {B M : Int} {c : Option Int} {n : Int} (h : Stands B M c n) (hB : 0 ≤ B) : 0 ≤ n := by
  cases c with
  | none => exact Int.le_trans hB h
  | some v => obtain ⟨h1, h2, _⟩ := h; omega
theorem Stands.mono {B M M' : Int} {c : Option Int} {n : Int} (h : Stands B M c n) (hM : M ≤ M') : Stands B M' c n := by
  cases c with
  | none => exact h
  | some v => obtain ⟨h1, h2, h3⟩ := h; exact ⟨h1, h2, by omega⟩
theorem Stands.told {B M : Int} {c : Option Int} {n : Int} (h : Stands B M c n) (hM : M < B) : (if n < B then some n else none) = c := by
  cases c with
  | none => have h : B ≤ n := h; rw [if_neg (by omega)]
  | some v => obtain ⟨h1, h2, h3⟩ := h; rw [if_pos (by omega), h1]
theorem osum3 {B M G : Int} {a b c : Option Int} {x y z : Int} (hB : 0 ≤ B) (ha : Stands B M a x) (hb : Stands B G b y) (hc : Stands B M c z) : Stands B (M + G + M) (osum [a, b, c]) (x + y + z) := by
  have x0 := ha.nonneg hB
  have y0 := hb.nonneg hB
  have z0 := hc.nonneg hB
  cases a with
  | none => have ha : B ≤ x := ha; show B ≤ _; omega
  | some a =>
    obtain ⟨a1, a2, a3⟩ := ha
    cases b with
    | none => have hb : B ≤ y := hb; show B ≤ _; omega
    | some b =>
      obtain ⟨b1, b2, b3⟩ := hb
      cases c with
      | none => have hc : B ≤ z := hc; show B ≤ _; omega
      | some c =>
        obtain ⟨c1, c2, c3⟩ := hc
        show x + y + z = a + (b + (c + 0)) ∧ 0 ≤ a + (b + (c + 0)) ∧ a + (b + (c + 0)) ≤ M + G + M
        omega
theorem osum5 {B M G : Int} {a b c d e : Option Int} {x y z u v : Int} (hB : 0 ≤ B) (ha : Stands B M a x) (hb : Stands B G b y) (hc : Stands B M c z) (hd : Stands B G d u) (he : Stands B M e v) : Stands B (M + G + M + G + M) (osum [a, b, c, d, e]) (x + y + z + u + v) := by
  have x0 := ha.nonneg hB
  have y0 := hb.nonneg hB
  have z0 := hc.nonneg hB
  have u0 := hd.nonneg hB
  have v0 := he.nonneg hB
  cases a with
  | none => have ha : B ≤ x := ha; show B ≤ _; omega
  | some a =>
    obtain ⟨a1, a2, a3⟩ := ha
    cases b with
    | none => have hb : B ≤ y := hb; show B ≤ _; omega
    | some b =>
      obtain ⟨b1, b2, b3⟩ := hb
      cases c with
      | none => have hc : B ≤ z := hc; show B ≤ _; omega
      | some c =>
        obtain ⟨c1, c2, c3⟩ := hc
        cases d with
        | none => have hd : B ≤ u := hd; show B ≤ _; omega
        | some d =>
          obtain ⟨d1, d2, d3⟩ := hd
          cases e with
          | none => have he : B ≤ v := he; show B ≤ _; omega
          | some e =>
            obtain ⟨e1, e2, e3⟩ := he
            show x + y + z + u + v = a + (b + (c + (d + (e + 0)))) ∧ 0 ≤ a + (b + (c + (d + (e + 0)))) ∧ a + (b + (c + (d + (e + 0)))) ≤ M + G + M + G + M
            omega
theorem omin2 {B M N : Int} {a b : Option Int} {x y : Int} (ha : Stands B M a x) (hb : Stands B N b y) (hM : M < B) (hN : N < B) : Stands B (max M N) (omin a b) (min x y) := by
  cases a with
  | none =>
    have ha : B ≤ x := ha
    cases b with
    | none => have hb : B ≤ y := hb; show B ≤ _; omega
    | some b =>
      obtain ⟨b1, b2, b3⟩ := hb
      show min x y = b ∧ _ ∧ _
      omega
  | some a =>
    obtain ⟨a1, a2, a3⟩ := ha
    cases b with
    | none =>
      have hb : B ≤ y := hb
      show min x y = a ∧ _ ∧ _
      omega
    | some b =>
      obtain ⟨b1, b2, b3⟩ := hb
      show min x y = min a b ∧ _ ∧ _
      omega
/-- the greatest cost of a level of k crates -/
def mostN (G : Int) : Nat → Int
  | 0 => 0
  | k + 1 => 3 * mostN G k + 2 * G
theorem mostN_nonneg {G : Int} (h : 0 ≤ G) : ∀ k, 0 ≤ mostN G k
  | 0 => Int.le_refl _
  | k + 1 => by have := mostN_nonneg h k; unfold mostN; omega
theorem mostN_lt {G : Int} (h : 0 < G) : ∀ k, mostN G k + G ≤ G * 3 ^ k
  | 0 => by show 0 + G ≤ G * 1; omega
  | k + 1 => by
    have i := mostN_lt h k
    have e : G * 3 ^ (k + 1) = 3 * (G * 3 ^ k) := by rw [Int.pow_succ]; rw [← Int.mul_assoc]; exact Int.mul_comm _ _
    rw [e]
    unfold mostN
    omega
theorem pow34 : ∀ k : Nat, (3 : Int) ^ k ≤ 4 ^ k
  | 0 => Int.le_refl _
  | k + 1 => by
    have i := pow34 k
    have p : (0 : Int) ≤ 3 ^ k := Int.pow_nonneg (by decide)
    rw [Int.pow_succ, Int.pow_succ]
    omega
theorem pow4_mono : ∀ {k n : Nat}, k ≤ n → (4 : Int) ^ k ≤ 4 ^ n := by
  intro k n h
  induction n with
  | zero => have : k = 0 := by omega
            rw [this]; exact Int.le_refl _
  | succ n ih =>
    by_cases e : k = n + 1
    · rw [e]; exact Int.le_refl _
    · have := ih (by omega)
      have p : (0 : Int) ≤ 4 ^ n := Int.pow_nonneg (by decide)
      rw [Int.pow_succ]
      omega
theorem mostN_bound {G : Int} {k n : Nat} (h : 0 < G) (hk : k ≤ n) : mostN G k < G * 4 ^ n := by
  have h1 := mostN_lt h k
  have h2 := Int.le_trans (pow34 k) (pow4_mono hk)
  have h3 : G * 3 ^ k ≤ G * 4 ^ n := Int.mul_le_mul_of_nonneg_left h2 (Int.le_of_lt h)
  omega
theorem step_stands {B G : Int} {k : Nat} {p D : Nat → Nat → Option Int} {q E : Nat → Nat → Int} (hB : 0 ≤ B) (hG : 0 ≤ G) (hM : mostN G (k + 1) < B) (hp : ∀ i j, i < 3 → j < 3 → i ≠ j → Stands B G (p i j) (q i j)) (hD : ∀ i j, i < 3 → j < 3 → i ≠ j → Stands B (mostN G k) (D i j) (E i j)) :
    ∀ i j, i < 3 → j < 3 → i ≠ j → Stands B (mostN G (k + 1)) (stepO p D i j) (stepN q E i j) := by
  intro i j hi hj n
  have m0 := mostN_nonneg hG k
  have ht : 3 - i - j < 3 ∧ i ≠ 3 - i - j ∧ 3 - i - j ≠ j := by omega
  have a := osum3 hB (hD i _ hi ht.1 ht.2.1) (hp i j hi hj n) (hD _ j ht.1 hj ht.2.2)
  have b := osum5 hB (hD i j hi hj n) (hp i _ hi ht.1 ht.2.1) (hD j i hj hi n.symm) (hp _ j ht.1 hj ht.2.2) (hD i j hi hj n)
  have e : mostN G (k + 1) = 3 * mostN G k + 2 * G := rfl
  refine (omin2 (a.mono (M' := mostN G (k + 1)) (by omega)) (b.mono (M' := mostN G (k + 1)) (by omega)) hM hM).mono ?_
  omega
end U
namespace U
open PySem PySem.Spec PyProof.Rows L2

def iV (ns : List Int) : List V := ns.map V.int
def sp_turned (K : PySem.W.Frag) : Sp := sp1 fun x H Q _ => ∃ p f, x = .ref p ∧ SqT K H p (iV (six f)) ∧ ∀ r H', Same H H' → H r = none → H' r = some (.tup (iV (six fun i j => f j i))) → Q (.ref r) H'
def sp_towers_above (K : PySem.W.Frag) : Sp := sp2 fun x y H Q _ => ∃ p q f g, x = .ref p ∧ y = .ref q ∧ SqT K H p (iV (six f)) ∧ SqT K H q (iV (six g)) ∧ ∀ r H', Same H H' → H r = none → H' r = some (.tup (iV (six (stepN f g)))) → Q (.ref r) H'
/-- from a place to all three -/
def dd (D : Nat → Nat → Int) (i j : Nat) : Int := if i = j then 0 else D i j
def three (f : Nat → Int) : List Int := [f 0, f 1, f 2]
def Each (H : Hp) (r : Addr) (D : Nat → Nat → Int) : Prop := ∃ q0 q1 q2, H r = some (.dK [(.inr "a", .ref q0), (.inr "b", .ref q1), (.inr "c", .ref q2)]) ∧ H q0 = some (.tup (iV (three (dd D 0)))) ∧ H q1 = some (.tup (iV (three (dd D 1)))) ∧ H q2 = some (.tup (iV (three (dd D 2))))
def sp_from_each_tower (K : PySem.W.Frag) : Sp := sp1 fun x H Q _ => ∃ p D, x = .ref p ∧ SqT K H p (iV (six D)) ∧ ∀ r H', Same H H' → H r = none → Each H' r D → Q (.ref r) H'
def bl1 (p : Nat → Nat → Int) (u v : Nat → Int) (i j : Nat) : Int := u (3 - i - j) + p i j + v (3 - i - j)
def bl2 (p D : Nat → Nat → Int) (u v : Nat → Int) (i j : Nat) : Int := u j + p i (3 - i - j) + D j i + p (3 - i - j) j + v i
def sp_both_lines (K : PySem.W.Frag) : Sp := sp5' fun w x y z t H Q _ => ∃ i j px py pz pt f D u v, w = .str (wd [i, j]) ∧ i < 3 ∧ j < 3 ∧ i ≠ j ∧ x = .ref px ∧ y = .ref py ∧ z = .ref pz ∧ t = .ref pt ∧ SqT K H px (iV (six f)) ∧ SqT K H py (iV (six D)) ∧ SqT K H pz (iV (three u)) ∧ SqT K H pt (iV (three v)) ∧
  ∀ r H', Same H H' → H r = none → H' r = some (.tup (iV [bl1 f u v i j, bl2 f D u v i j])) → Q (.ref r) H'
where sp5' (f : V → V → V → V → V → Hp → VK → XK → Prop) : Sp := fun vs H Q E => match vs with
  | [x, y, z, u, v] => f x y z u v H Q E
  | _ => False
def t_turned (K : PySem.W.Frag) (E : XK) : TS := (tSeq (tAsg (tVar 0) (gTup K 6 (gCons (gName 1) (gCons (gName 2) (gCons (gName 3) (gCons (gName 4) (gCons (gName 5) (gCons (gName 6) gNil)))))))) (tRet (tTup (tCons (tVar 3) (tCons (tVar 5) (tCons (tVar 1) (tCons (tVar 6) (tCons (tVar 2) (tCons (tVar 4) tNil)))))))))
def t_towers_above (K : PySem.W.Frag) (E : XK) : TS := (tSeq (tAsg (tVar 1) (gTup K 6 (gCons (gName 2) (gCons (gName 3) (gCons (gName 4) (gCons (gName 5) (gCons (gName 6) (gCons (gName 7) gNil)))))))) (tSeq (tAsg (tVar 0) (gTup K 6 (gCons (gName 8) (gCons (gName 9) (gCons (gName 10) (gCons (gName 11) (gCons (gName 12) (gCons (gName 13) gNil)))))))) (tRet (tTup (tCons (tCB uMin2 (tCons (tOp uAdd (tOp uAdd (tVar 3) (tVar 8)) (tVar 7)) (tCons (tOp uAdd (tOp uAdd (tOp uAdd (tOp uAdd (tVar 2) (tVar 9)) (tVar 4)) (tVar 13)) (tVar 2)) tNil))) (tCons (tCB uMin2 (tCons (tOp uAdd (tOp uAdd (tVar 2) (tVar 9)) (tVar 5)) (tCons (tOp uAdd (tOp uAdd (tOp uAdd (tOp uAdd (tVar 3) (tVar 8)) (tVar 6)) (tVar 11)) (tVar 3)) tNil))) (tCons (tCB uMin2 (tCons (tOp uAdd (tOp uAdd (tVar 5) (tVar 10)) (tVar 6)) (tCons (tOp uAdd (tOp uAdd (tOp uAdd (tOp uAdd (tVar 4) (tVar 11)) (tVar 2)) (tVar 12)) (tVar 4)) tNil))) (tCons (tCB uMin2 (tCons (tOp uAdd (tOp uAdd (tVar 4) (tVar 11)) (tVar 3)) (tCons (tOp uAdd (tOp uAdd (tOp uAdd (tOp uAdd (tVar 5) (tVar 10)) (tVar 7)) (tVar 9)) (tVar 5)) tNil))) (tCons (tCB uMin2 (tCons (tOp uAdd (tOp uAdd (tVar 7) (tVar 12)) (tVar 4)) (tCons (tOp uAdd (tOp uAdd (tOp uAdd (tOp uAdd (tVar 6) (tVar 13)) (tVar 3)) (tVar 10)) (tVar 6)) tNil))) (tCons (tCB uMin2 (tCons (tOp uAdd (tOp uAdd (tVar 6) (tVar 13)) (tVar 2)) (tCons (tOp uAdd (tOp uAdd (tOp uAdd (tOp uAdd (tVar 7) (tVar 12)) (tVar 5)) (tVar 8)) (tVar 7)) tNil))) tNil))))))))))
def t_from_each_tower (K : PySem.W.Frag) (E : XK) : TS := (tSeq (tAsg (tVar 0) (gTup K 6 (gCons (gName 1) (gCons (gName 2) (gCons (gName 3) (gCons (gName 4) (gCons (gName 5) (gCons (gName 6) gNil)))))))) (tRet (tDisp [((tC (.str "a")), (tTup (tCons (tC (.int 0)) (tCons (tVar 1) (tCons (tVar 2) tNil))))), ((tC (.str "b")), (tTup (tCons (tVar 3) (tCons (tC (.int 0)) (tCons (tVar 4) tNil))))), ((tC (.str "c")), (tTup (tCons (tVar 5) (tCons (tVar 6) (tCons (tC (.int 0)) tNil)))))])))
def t_both_lines (K : PySem.W.Frag) (E : XK) : TS := (tSeq (tAsg (tOp (rTurn K) (tC (.ref (He.ga K "_TURNS"))) (tVar 0)) (gTup K 7 (gCons (gName 5) (gCons (gName 6) (gCons (gName 7) (gCons (gName 8) (gCons (gName 9) (gCons (gName 10) (gCons (gName 11) gNil))))))))) (tRet (tTup (tCons (tOp uAdd (tOp uAdd (tOp (uIx K) (tVar 3) (tVar 11)) (tOp (uIx K) (tVar 1) (tVar 5))) (tOp (uIx K) (tVar 4) (tVar 11))) (tCons (tOp uAdd (tOp uAdd (tOp uAdd (tOp uAdd (tOp (uIx K) (tVar 3) (tVar 10)) (tOp (uIx K) (tVar 1) (tVar 6))) (tOp (uIx K) (tVar 2) (tVar 8))) (tOp (uIx K) (tVar 1) (tVar 7))) (tOp (uIx K) (tVar 4) (tVar 9))) tNil)))))
section
variable {K : PySem.W.Frag} (F : KF K) {vs : List V} {H : Hp} {Q : VK} {E : XK}
local macro_rules | `(tactic| walk_at "w") => `(tactic| try simp only [turnE, lcT, Snoc, tRet, tRetN, tAndV, tOrV, tNotV, tCB, tCons, tVar, tNil, tC, tOp, tSeq, tAsg, gName, gSub, tIfS, tDrop, tFn, tTup, tLst, tNext, tB, tTest, tNot, tAnd, tOr, tIf, tChain, tUn, rU, tFld, tPart, tNoPart, L2.tSl, tBM, tPar, tPar3, tTruth, tDNewK,
  L2.start, List.map_cons, List.map_nil, List.length_cons, List.length_nil, List.replicate_succ, List.replicate_zero, List.append_nil, List.nil_append, List.cons_append, List.singleton_append, Nat.sub_self, Nat.zero_add, Nat.reduceAdd, Nat.reduceSub,
  List.getElem?_cons_zero, List.getElem?_cons_succ, List.set_cons_zero, List.set_cons_succ, Option.some.injEq, exists_eq_left, exists_eq_left', V.int.injEq, V.bl.injEq, V.str.injEq, V.ref.injEq,
  uAdd_int, uAdd_str, uSub_int, uMul_int, uMul_str, uDiv_int, uMod_int, uPow_int, uLt_int, uLe_int, uGt_int, uGe_int, uIs_non, uNis_non, uIs_bl, uNis_bl, sp1, sp2, sp3, sp4, uEq_int, uEq_str, uNe_int, uNe_str, uSl_str, uLen_str, decide_eq_true_eq])
local macro_rules | `(tactic| walk_at "1") => `(tactic| try simp only [turnE, lcT, Snoc, tRet, tRetN, tAndV, tOrV, tNotV, tCB, tCons, tVar, tNil, tC, tOp, tAsg, gName, gSub, tIfS, tDrop, tFn, tTup, tLst, tNext, tB, tTest, tNot, tAnd, tOr, tIf, tChain, tUn, rU, tFld, tPart, tNoPart, L2.tSl, tBM, tPar, tPar3, tTruth, tDNewK,
  L2.start, List.map_cons, List.map_nil, List.length_cons, List.length_nil, List.replicate_succ, List.replicate_zero, List.append_nil, List.nil_append, List.cons_append, List.singleton_append, Nat.sub_self, Nat.zero_add, Nat.reduceAdd, Nat.reduceSub,
  List.getElem?_cons_zero, List.getElem?_cons_succ, List.set_cons_zero, List.set_cons_succ, Option.some.injEq, exists_eq_left, exists_eq_left', V.int.injEq, V.bl.injEq, V.str.injEq, V.ref.injEq,
  uAdd_int, uAdd_str, uSub_int, uMul_int, uMul_str, uDiv_int, uMod_int, uPow_int, uLt_int, uLe_int, uGt_int, uGe_int, uIs_non, uNis_non, uIs_bl, uNis_bl, sp1, sp2, sp3, sp4, uEq_int, uEq_str, uNe_int, uNe_str, uSl_str, uLen_str, decide_eq_true_eq])
local macro_rules | `(tactic| walk_at "s") => `(tactic| ((try dsimp only [turnE]); with_reducible refine seq_ ?_))

theorem min_int {a b : Int} : (if b < a then b else a) = min a b := by
  by_cases h : b < a
  · rw [if_pos h]; omega
  · rw [if_neg h]; omega
/-- a tuple of n numbers in n names -/
theorem un1 {i : Nat} {u : TGs} {v : V} {r : List V} {σ : L2.St} {Q : L2.St → Hp → Prop} (h : u r (σ.set i (some v)) H Q) : gCons (gName i) u (v :: r) σ H Q := ⟨v, r, rfl, h⟩
theorem un0 {σ : L2.St} {Q : L2.St → Hp → Prop} (h : Q σ H) : gNil [] σ H Q := ⟨rfl, h⟩
include F in
theorem read_turned (h : sp_turned K vs H Q E) : t_turned K E { nx := fun _ H' => Q .non H', rt := Q } (start ["six", "ab", "ac", "ba", "bc", "ca", "cb"] vs) H := by
  match vs, h with
  | [_], ⟨p, f, rfl, hp, q⟩ =>
    unfold t_turned
    walk_at "s"
    walk_at "1"
    refine ⟨p, _, rfl, hp, rfl, un1 (un1 (un1 (un1 (un1 (un1 (un0 ?_))))))⟩
    walk_at "1"
    exact ⟨by decide, fun r hr => q r _ (same_new hr) hr upd_same⟩
include F in
theorem read_towers_above (h : sp_towers_above K vs H Q E) : t_towers_above K E { nx := fun _ H' => Q .non H', rt := Q } (start ["prices", "below", "ab", "ac", "ba", "bc", "ca", "cb", "price_ab", "price_ac", "price_ba", "price_bc", "price_ca", "price_cb"] vs) H := by
  match vs, h with
  | [_, _], ⟨p, b, f, g, rfl, rfl, hp, hb, q⟩ =>
    unfold t_towers_above
    walk_at "s"
    walk_at "1"
    refine ⟨b, _, rfl, hb, rfl, un1 (un1 (un1 (un1 (un1 (un1 (un0 ?_))))))⟩
    walk_at "s"
    walk_at "1"
    refine ⟨p, _, rfl, hp, rfl, un1 (un1 (un1 (un1 (un1 (un1 (un0 ?_))))))⟩
    walk_at "1"
    refine ⟨_, _, rfl, ⟨_, _, rfl, ⟨_, _, rfl, ⟨_, _, rfl, ⟨_, _, rfl, ⟨_, _, rfl, ⟨by decide, fun r hr => q r _ (same_new hr) hr ?_⟩⟩⟩⟩⟩⟩⟩
    rw [upd_same]
    simp only [min_int]
    rfl
include F in
theorem read_from_each_tower (h : sp_from_each_tower K vs H Q E) : t_from_each_tower K E { nx := fun _ H' => Q .non H', rt := Q } (start ["towers", "ab", "ac", "ba", "bc", "ca", "cb"] vs) H := by
  match vs, h with
  | [_], ⟨p, D, rfl, hp, q⟩ =>
    unfold t_from_each_tower
    walk_at "s"
    walk_at "1"
    refine ⟨p, _, rfl, hp, rfl, un1 (un1 (un1 (un1 (un1 (un1 (un0 ?_))))))⟩
    simp only [tRet, tDisp, tPairs]
    walk_at "1"
    refine fun d nd => ⟨by decide, fun q0 n0 => ⟨by decide, fun q1 n1 => ⟨by decide, fun q2 n2 => ?_⟩⟩⟩
    have o1 : Off d H (upd H d (.dK [])) := off_upd
    have g0 : upd H d (.dK []) d = some (.dK []) := upd_same
    generalize upd H d (.dK []) = H1 at *
    have s2 : Same H1 (upd H1 q0 (.tup (iV (three (dd D 0))))) := same_new n0
    have g2 : upd H1 q0 (.tup (iV (three (dd D 0)))) q0 = some (.tup (iV (three (dd D 0)))) := upd_same
    change upd H1 q0 (.tup (iV (three (dd D 0)))) q1 = none at n1
    change upd (upd H1 q0 (.tup (iV (three (dd D 0))))) q1 (.tup (iV (three (dd D 1)))) q2 = none at n2
    show upd (upd (upd H1 q0 (.tup (iV (three (dd D 0))))) q1 (.tup (iV (three (dd D 1))))) q2 (.tup (iV (three (dd D 2)))) d = _ ∧ ∃ kvs, _ ∧ _ ∧ Q (.ref d) (upd (upd (upd (upd H1 q0 (.tup (iV (three (dd D 0))))) q1 (.tup (iV (three (dd D 1))))) q2 (.tup (iV (three (dd D 2))))) d (.dK (mergeK [] kvs)))
    generalize upd H1 q0 (.tup (iV (three (dd D 0)))) = H2 at *
    have s3 : Same H2 (upd H2 q1 (.tup (iV (three (dd D 1))))) := same_new n1
    have g3 : upd H2 q1 (.tup (iV (three (dd D 1)))) q1 = some (.tup (iV (three (dd D 1)))) := upd_same
    generalize upd H2 q1 (.tup (iV (three (dd D 1)))) = H3 at *
    have s4 : Same H3 (upd H3 q2 (.tup (iV (three (dd D 2))))) := same_new n2
    have g4 : upd H3 q2 (.tup (iV (three (dd D 2)))) q2 = some (.tup (iV (three (dd D 2)))) := upd_same
    generalize upd H3 q2 (.tup (iV (three (dd D 2)))) = H4 at *
    have s14 := s2.trans (s3.trans s4)
    have gd := s14 _ _ g0
    have nd0 : ∀ {c : Addr} {xs : List V}, H4 c = some (.tup xs) → c ≠ d := fun e z => by rw [z, gd] at e; cases e
    refine ⟨gd, [(.inr "a", .ref q0), (.inr "b", .ref q1), (.inr "c", .ref q2)], rfl, Nat.le_of_ble_eq_true rfl, ?_⟩
    rw [show mergeK [] [((.inr "a" : Key), V.ref q0), (.inr "b", .ref q1), (.inr "c", .ref q2)] = [(.inr "a", .ref q0), (.inr "b", .ref q1), (.inr "c", .ref q2)] from rfl]
    have e0 := s4 _ _ (s3 _ _ g2)
    have e1 := s4 _ _ g3
    refine q d _ ((o1.trans ((Same.off s14).trans off_upd)).same nd) nd ⟨q0, q1, q2, upd_same, ?_, ?_, ?_⟩
    · rw [upd_ne (nd0 e0)]; exact e0
    · rw [upd_ne (nd0 e1)]; exact e1
    · rw [upd_ne (nd0 g4)]; exact g4
theorem turn_at {i j : Nat} (hi : i < 3) (hj : j < 3) (n : i ≠ j) : ∃ c1 c2 c3 c4 : Nat, (wd [i, j], [(c1 : Int), c2, c3, c4, i, j, ((3 - i - j : Nat) : Int)]) ∈ turnsT ∧
    (∀ f : Nat → Nat → Int, (six f)[c1]? = some (f i j) ∧ (six f)[c2]? = some (f i (3 - i - j)) ∧ (six f)[c3]? = some (f (3 - i - j) j) ∧ (six f)[c4]? = some (f j i)) := by
  rcases (show i = 0 ∧ j = 1 ∨ i = 0 ∧ j = 2 ∨ i = 1 ∧ j = 0 ∨ i = 1 ∧ j = 2 ∨ i = 2 ∧ j = 0 ∨ i = 2 ∧ j = 1 by omega) with ⟨rfl, rfl⟩ | ⟨rfl, rfl⟩ | ⟨rfl, rfl⟩ | ⟨rfl, rfl⟩ | ⟨rfl, rfl⟩ | ⟨rfl, rfl⟩
  · exact ⟨0, 1, 5, 2, by decide +kernel, fun f => ⟨rfl, rfl, rfl, rfl⟩⟩
  · exact ⟨1, 0, 3, 4, by decide +kernel, fun f => ⟨rfl, rfl, rfl, rfl⟩⟩
  · exact ⟨2, 3, 4, 0, by decide +kernel, fun f => ⟨rfl, rfl, rfl, rfl⟩⟩
  · exact ⟨3, 2, 1, 5, by decide +kernel, fun f => ⟨rfl, rfl, rfl, rfl⟩⟩
  · exact ⟨4, 5, 2, 1, by decide +kernel, fun f => ⟨rfl, rfl, rfl, rfl⟩⟩
  · exact ⟨5, 4, 0, 3, by decide +kernel, fun f => ⟨rfl, rfl, rfl, rfl⟩⟩
theorem ix_six {p c : Addr} {x : Int} {k : Nat} {ns : List Int} (h : SqT K H p (iV ns)) (e : ns[k]? = some x) (q : Q (.int x) H) : uIx K (.ref p) (.int (k : Nat)) H Q :=
  ⟨_, .int x, .inr h, at_nat (by unfold iV; rw [List.getElem?_map, e]; rfl), q⟩
theorem three_at (u : Nat → Int) {k : Nat} (hk : k < 3) : (three u)[k]? = some (u k) := by
  match k, hk with
  | 0, _ => rfl
  | 1, _ => rfl
  | 2, _ => rfl
include F in
theorem read_both_lines (h : sp_both_lines K vs H Q E) : t_both_lines K E { nx := fun _ H' => Q .non H', rt := Q } (start ["way", "prices", "towers", "to_towers", "from_towers", "straight", "first", "second", "back", "here", "there", "over"] vs) H := by
  match vs, h with
  | [_, _, _, _, _], ⟨i, j, px, py, pz, pt, f, D, u, v, rfl, hi, hj, n, rfl, rfl, rfl, rfl, h1, h2, h3, h4, q⟩ =>
    unfold t_both_lines
    obtain ⟨c1, c2, c3, c4, mem, at_⟩ := turn_at hi hj n
    obtain ⟨f1, f2, f3, f4⟩ := at_ f
    obtain ⟨_, _, _, d4⟩ := at_ D
    have ht : 3 - i - j < 3 := by omega
    walk_at "s"
    walk_at "1"
    refine ⟨_, _, rfl, rfl, mem, fun p hp => ?_⟩
    refine ⟨p, _, rfl, hp, rfl, un1 (un1 (un1 (un1 (un1 (un1 (un1 (un0 ?_)))))))⟩
    walk_at "1"
    refine ix_six (c := p) h3 (three_at u ht) (ix_six (c := p) h1 f1 ?_)
    walk_at "1"
    refine ix_six (c := p) h4 (three_at v ht) ?_
    walk_at "1"
    refine ix_six (c := p) h3 (three_at u hj) (ix_six (c := p) h1 f2 ?_)
    walk_at "1"
    refine ix_six (c := p) h2 d4 ?_
    walk_at "1"
    refine ix_six (c := p) h1 f3 ?_
    walk_at "1"
    refine ix_six (c := p) h4 (three_at v hi) ?_
    walk_at "1"
    exact ⟨by decide, fun r hr => q r _ (same_new hr) hr upd_same⟩
end
end U
namespace U
open PySem PySem.Spec PyProof.Rows L2

/-! ### a dict comprehension over pairs -/
/-- the turns of such a comprehension, D its dict -/
def DcB (J : It) (g : TG) (tt : TT) (tk tv : TE) (vs : List Nat) (σ : L2.St) (H1 : Hp) (D : Addr) (Qd : Hp → Prop) : Prop :=
  ∃ W : Nat → Nat → Hp → Prop, (∃ m, W 0 m (upd H1 D (.dK []))) ∧ ∀ i m H, W i m H → (J.stop i H ∧ Qd H) ∨ (J.go i H ∧ ∃ Nx : Hp → Prop, (∀ H', Nx H' → ∃ m', m' < m ∧ W (i + 1) m' H') ∧ ∀ x H', J.yld i H x H' → g x (wipe σ vs) H' fun ρ H2 => wipe ρ vs = wipe σ vs ∧ tt ρ H2 fun b H3 =>
        if b = true then tk ρ H3 fun u H4 => tv ρ H4 fun z H5 => ∃ kvs k, u = kV k ∧ H5 D = some (.dK kvs) ∧ kvs.length < sizeLine ∧ Nx (upd H5 D (.dK (putK kvs k z))) else Nx H3)
theorem tDc_zipA {K : PySem.W.Frag} {ta : TA} {g : TG} {tt : TT} {tk tv : TE} {vs : List Nat} {σ : L2.St} {H : Hp} {Q : VK} (h : RZ.iZipA K ta σ H fun J H1 => ∀ D, H1 D = none → DcB J g tt tk tv vs σ H1 D (Q (.ref D))) : tDc (iZipV K ta) g tt tk tv vs σ H Q := .inr h
theorem dc_zip {J : It} {xs ys : List V} {G : Hp → Prop} (Z : Zipped J xs ys G) {g : TG} {tt : TT} {tk tv : TE} {vs : List Nat} {σ : L2.St} {H1 : Hp} {D : Addr} {Qd : Hp → Prop} (Pv : Nat → Hp → Prop) (h0 : Pv 0 (upd H1 D (.dK []))) (hG : ∀ i H, Pv i H → G H)
    (hs : ∀ i x y T H, xs[i]? = some x → ys[i]? = some y → Pv i H → H T = none → g (.ref T) (wipe σ vs) (upd H T (.tup [x, y])) fun ρ H2 => wipe ρ vs = wipe σ vs ∧ tt ρ H2 fun b H3 =>
      if b = true then tk ρ H3 fun u H4 => tv ρ H4 fun z H5 => ∃ kvs k, u = kV k ∧ H5 D = some (.dK kvs) ∧ kvs.length < sizeLine ∧ Pv (i + 1) (upd H5 D (.dK (putK kvs k z))) else Pv (i + 1) H3)
    (hd : ∀ H, Pv (min xs.length ys.length) H → Qd H) :
    DcB J g tt tk tv vs σ H1 D Qd := by
  refine ⟨fun i m H => m = min xs.length ys.length - i ∧ (i ≤ min xs.length ys.length ∧ Pv i H), ⟨_, rfl, Nat.zero_le _, h0⟩, ?_⟩
  rintro i m H ⟨rfl, hi, p⟩
  by_cases lt : i < min xs.length ys.length
  · refine .inr ⟨Z.go i H (hG i H p) (by omega) (by omega), Pv (i + 1), fun H' p' => ⟨min xs.length ys.length - (i + 1), by omega, rfl, lt, p'⟩, fun v H' yd => ?_⟩
    obtain ⟨T, x, y, rfl, hT, rfl, e1, e2⟩ := Z.yld i H v H' (hG i H p) yd
    exact hs i x y T H e1 e2 p hT
  · have e : i = min xs.length ys.length := by omega
    subst e
    exact .inl ⟨Z.stop _ H (hG _ H p) (by omega) (by omega) (by omega), hd H p⟩
theorem pair_in {K : PySem.W.Frag} {T : Addr} {x y : V} {i j : Nat} {σ : L2.St} {H : Hp} {Q : L2.St → Hp → Prop} (h : H T = some (.tup [x, y])) (q : Q ((σ.set i (some x)).set j (some y)) H) : gTup K 2 (gCons (gName i) (gCons (gName j) gNil)) (.ref T) σ H Q :=
  ⟨T, _, rfl, .inl (.inl h), rfl, x, _, rfl, y, _, rfl, rfl, q⟩
/-! ### what the head tells of the class Reckoning -/
structure KR (K : PySem.W.Frag) : Prop where
  cl : Cls K (He.ga K "Reckoning")
  bound : NoAttr K (He.ga K "Reckoning") "bound"
  prices : NoAttr K (He.ga K "Reckoning") "prices"
  towers : NoAttr K (He.ga K "Reckoning") "towers"
  back : NoAttr K (He.ga K "Reckoning") "_backwards"
  ne : He.ga K "Yard" ≠ He.ga K "Reckoning"
/-- the fields of a reckoning -/
def rkF (B : Int) (lp lt : V) (bk : V) : List (Str × V) := [("bound", .int B), ("prices", lp), ("towers", lt), ("_backwards", bk)]
def RkAt (K : PySem.W.Frag) (H : Hp) (a : Addr) (B : Int) (lp lt : V) : Prop := ∃ dx bk, H a = some (.ins (He.ga K "Reckoning") dx (rkF B lp lt bk))
def toldV (B n : Int) : Option Int := if n < B then some n else none
def sp_Reckoning_init (K : PySem.W.Frag) : Sp := sp4 fun s b p t H Q _ => ∃ a dx B, s = .ref a ∧ b = .int B ∧ H a = some (.ins (He.ga K "Reckoning") dx []) ∧ ∀ H', Off a H H' → H' a = some (.ins (He.ga K "Reckoning") dx (rkF B p t .non)) → Q .non H'
def sp_Reckoning_told (K : PySem.W.Frag) : Sp := sp2 fun s x H Q _ => ∃ a B lp lt n, s = .ref a ∧ RkAt K H a B lp lt ∧ x = .int n ∧ Q (pV (toldV B n)) H
/-- names with what is told of as many numbers -/
def namedK (B : Int) (zs : List Str) (ns : List Int) : List (Key × V) := (zs.zip ns).map fun p => (.inr p.1, pV (toldV B p.2))
def sp_Reckoning_named (K : PySem.W.Frag) : Sp := sp3 fun s x y H Q _ => ∃ a B lp lt p q zs ns, s = .ref a ∧ RkAt K H a B lp lt ∧ x = .ref p ∧ y = .ref q ∧ SqT K H p (zs.map V.str) ∧ SqT K H q (iV ns) ∧ zs.Nodup ∧ zs.length ≤ 10 ∧ zs.length = ns.length ∧
  ∀ r H', Same H H' → H r = none → H' r = some (.dK (namedK B zs ns)) → Q (.ref r) H'
def t_Reckoning_init (K : PySem.W.Frag) (E : XK) : TS := (tSeq (sFld K (tVar 0) (tVar 1) "bound") (tSeq (sFld K (tVar 0) (tVar 2) "prices") (tSeq (sFld K (tVar 0) (tVar 3) "towers") (sFld K (tVar 0) (tC .non) "_backwards"))))
def t_Reckoning_told (K : PySem.W.Frag) (E : XK) : TS := (tRet (tIf (tTest (tOp uLt (tVar 1) (tFld K (tVar 0) "bound"))) (tVar 1) (tC .non)))
def t_Reckoning_named (K : PySem.W.Frag) (E : XK) : TS := (tSeq (tAsg (tFld K (tVar 0) "bound") (gName 3)) (tRet (tDc (iZipV K (tCons (tVar 1) (tCons (tVar 2) tNil))) (gTup K 2 (gCons (gName 4) (gCons (gName 5) gNil))) tYes (tVar 4) (tIf (tTest (tOp uLt (tVar 5) (tVar 3))) (tVar 5) (tC .non)) [4, 5])))
section
variable {K : PySem.W.Frag} (F : KF K) (R : KR K) {vs : List V} {H : Hp} {Q : VK} {E : XK}
local macro_rules | `(tactic| walk_at "w") => `(tactic| try simp only [turnE, lcT, Snoc, tRet, tRetN, tAndV, tOrV, tNotV, tCB, tCons, tVar, tNil, tC, tOp, tSeq, tAsg, gName, gSub, tIfS, tDrop, tFn, tTup, tLst, tNext, tB, tTest, tNot, tAnd, tOr, tIf, tChain, tUn, rU, tFld, tPart, tNoPart, L2.tSl, tBM, tPar, tPar3, tTruth, tDNewK,
  L2.start, List.map_cons, List.map_nil, List.length_cons, List.length_nil, List.replicate_succ, List.replicate_zero, List.append_nil, List.nil_append, List.cons_append, List.singleton_append, Nat.sub_self, Nat.zero_add, Nat.reduceAdd, Nat.reduceSub,
  List.getElem?_cons_zero, List.getElem?_cons_succ, List.set_cons_zero, List.set_cons_succ, Option.some.injEq, exists_eq_left, exists_eq_left', V.int.injEq, V.bl.injEq, V.str.injEq, V.ref.injEq,
  uAdd_int, uAdd_str, uSub_int, uMul_int, uMul_str, uDiv_int, uMod_int, uPow_int, uLt_int, uLe_int, uGt_int, uGe_int, uIs_non, uNis_non, uIs_bl, uNis_bl, sp1, sp2, sp3, sp4, uEq_int, uEq_str, uNe_int, uNe_str, uSl_str, uLen_str, decide_eq_true_eq])
local macro_rules | `(tactic| walk_at "1") => `(tactic| try simp only [turnE, lcT, Snoc, tRet, tRetN, tAndV, tOrV, tNotV, tCB, tCons, tVar, tNil, tC, tOp, tAsg, gName, gSub, tIfS, tDrop, tFn, tTup, tLst, tNext, tB, tTest, tNot, tAnd, tOr, tIf, tChain, tUn, rU, tFld, tPart, tNoPart, L2.tSl, tBM, tPar, tPar3, tTruth, tDNewK,
  L2.start, List.map_cons, List.map_nil, List.length_cons, List.length_nil, List.replicate_succ, List.replicate_zero, List.append_nil, List.nil_append, List.cons_append, List.singleton_append, Nat.sub_self, Nat.zero_add, Nat.reduceAdd, Nat.reduceSub,
  List.getElem?_cons_zero, List.getElem?_cons_succ, List.set_cons_zero, List.set_cons_succ, Option.some.injEq, exists_eq_left, exists_eq_left', V.int.injEq, V.bl.injEq, V.str.injEq, V.ref.injEq,
  uAdd_int, uAdd_str, uSub_int, uMul_int, uMul_str, uDiv_int, uMod_int, uPow_int, uLt_int, uLe_int, uGt_int, uGe_int, uIs_non, uNis_non, uIs_bl, uNis_bl, sp1, sp2, sp3, sp4, uEq_int, uEq_str, uNe_int, uNe_str, uSl_str, uLen_str, decide_eq_true_eq])
local macro_rules | `(tactic| walk_at "s") => `(tactic| ((try dsimp only [turnE]); with_reducible refine seq_ ?_))

include F R in
theorem read_Reckoning_init (h : sp_Reckoning_init K vs H Q E) : t_Reckoning_init K E { nx := fun _ H' => Q .non H', rt := Q } (start ["self", "bound", "prices", "towers"] vs) H := by
  match vs, h with
  | [_, _, p, t], ⟨a, dx, B, rfl, rfl, ha, q⟩ =>
    unfold t_Reckoning_init
    simp only [tSeq, sFld]
    walk_at "1"
    refine ⟨a, _, dx, _, rfl, ha, R.cl, R.bound, by decide, ?_⟩
    have e1 : putF "bound" (.int B) [] = ([("bound", .int B)] : List (Str × V)) := rfl
    have e2 : putF "prices" p ([("bound", .int B)] : List (Str × V)) = ([("bound", .int B), ("prices", p)] : List (Str × V)) := rfl
    have e3 : putF "towers" t ([("bound", .int B), ("prices", p)] : List (Str × V)) = ([("bound", .int B), ("prices", p), ("towers", t)] : List (Str × V)) := rfl
    have e4 : putF "_backwards" .non ([("bound", .int B), ("prices", p), ("towers", t)] : List (Str × V)) = rkF B p t .non := rfl
    refine ⟨a, _, dx, _, rfl, upd_same, R.cl, R.prices, by rw [e1]; show (1 : Nat) < 1000; decide, ?_⟩
    rw [e1, e2]
    refine ⟨a, _, dx, _, rfl, upd_same, R.cl, R.towers, by show (2 : Nat) < 1000; decide, ?_⟩
    rw [e3]
    refine ⟨a, _, dx, _, rfl, upd_same, R.cl, R.back, by show (3 : Nat) < 1000; decide, ?_⟩
    rw [e4]
    exact q _ (Off.trans (Off.trans (Off.trans off_upd off_upd) off_upd) off_upd) upd_same
include F R in
theorem read_Reckoning_told (h : sp_Reckoning_told K vs H Q E) : t_Reckoning_told K E { nx := fun _ H' => Q .non H', rt := Q } (start ["self", "number"] vs) H := by
  match vs, h with
  | [_, _], ⟨a, B, lp, lt, n, rfl, ⟨dx, bk, ha⟩, rfl, q⟩ =>
    unfold t_Reckoning_told
    walk_at "1"
    refine ⟨a, _, dx, _, .int B, rfl, ha, R.cl, R.bound, rfl, ?_⟩
    walk_at "1"
    by_cases l : n < B
    · rw [toldV, if_pos l] at q
      rw [if_pos l]
      exact q
    · rw [toldV, if_neg l] at q
      rw [if_neg l]
      exact q
/-- the numbers of a list, as they come out of a zip -/
theorem put_new {kvs : List (Key × V)} {k : Key} {v : V} (h : ∀ p ∈ kvs, p.1 ≠ k) : putK kvs k v = kvs ++ [(k, v)] := by
  unfold putK
  rw [if_neg]
  simp only [List.any_eq_true, decide_eq_true_eq, not_exists, not_and]
  exact h
include F R in
theorem read_Reckoning_named (h : sp_Reckoning_named K vs H Q E) : t_Reckoning_named K E { nx := fun _ H' => Q .non H', rt := Q } (start ["self", "names", "numbers", "bound", "name", "number"] vs) H := by
  match vs, h with
  | [_, _, _], ⟨a, B, lp, lt, p, b, zs, ns, rfl, ⟨dx, bk, ha⟩, rfl, rfl, hp, hb, nd, few, same, q⟩ =>
    unfold t_Reckoning_named
    walk_at "s"
    walk_at "1"
    refine ⟨a, _, dx, _, .int B, rfl, ha, R.cl, R.bound, rfl, ?_⟩
    refine tDc_zipA ?_
    refine ⟨.ref p, rfl, .ref b, rfl, p, b, _, _, rfl, .inr ⟨hp, hb, fun D hD => ?_⟩⟩
    refine dc_zip (zipped_TT (K := K) (a := p) (b := b) (xs := zs.map V.str) (ys := iV ns))
      (fun i H' => Off D H H' ∧ H' D = some (.dK (namedK B (zs.take i) (ns.take i)))) ⟨off_upd, upd_same⟩ (fun i H' z => ⟨Same.sqT (z.1.same hD) hp, Same.sqT (z.1.same hD) hb⟩) ?_ ?_
    · rintro i x y T H2 hx hy ⟨o2, gD⟩ nT
      refine pair_in upd_same ?_
      rw [List.getElem?_map] at hx
      obtain ⟨z, hz, rfl⟩ := Option.map_eq_some_iff.mp hx
      unfold iV at hy
      rw [List.getElem?_map] at hy
      obtain ⟨n, hn, rfl⟩ := Option.map_eq_some_iff.mp hy
      have lz := (List.getElem?_eq_some_iff.mp hz).1
      have ln := (List.getElem?_eq_some_iff.mp hn).1
      have nTD : D ≠ T := by rintro rfl; rw [gD] at nT; cases nT
      have o3 : Off D H (upd H2 T (.tup [.str z, .int n])) := Off.trans o2 (Same.off (same_new nT))
      have gD3 : upd H2 T (.tup [.str z, .int n]) D = some (.dK (namedK B (zs.take i) (ns.take i))) := by rw [upd_ne nTD]; exact gD
      generalize upd H2 T (.tup [.str z, .int n]) = H3 at *
      refine ⟨rfl, ?_⟩
      unfold tYes
      dsimp only
      rw [if_pos rfl, show wipe [some (V.ref a), some (V.ref p), some (V.ref b), some (V.int B), none, none] [4, 5] = [some (V.ref a), some (V.ref p), some (V.ref b), some (V.int B), none, none] from rfl]
      simp only [List.set_cons_zero, List.set_cons_succ]
      have et : namedK B (zs.take (i + 1)) (ns.take (i + 1)) = namedK B (zs.take i) (ns.take i) ++ [(.inr z, pV (toldV B n))] := by
        unfold namedK
        rw [List.take_succ_eq_append_getElem lz, List.take_succ_eq_append_getElem ln, List.zip_append (by rw [List.length_take, List.length_take]; omega), List.map_append]
        rw [(List.getElem?_eq_some_iff.mp hz).2, (List.getElem?_eq_some_iff.mp hn).2]
        rfl
      have fresh : ∀ q ∈ namedK B (zs.take i) (ns.take i), q.1 ≠ .inr z := by
        rintro q m e
        unfold namedK at m
        obtain ⟨w, mw, rfl⟩ := List.mem_map.mp m
        have e : w.1 = z := Sum.inr.inj e
        have m2 := (List.of_mem_zip mw).1
        rw [e] at m2
        obtain ⟨k, lk, ek⟩ := List.mem_iff_getElem.mp m2
        rw [List.length_take] at lk
        rw [List.getElem_take] at ek
        have hz2 := (List.getElem?_eq_some_iff.mp hz).2
        have ek2 : zs[k]? = zs[i]? := by rw [List.getElem?_eq_getElem (by omega), hz, ek]
        have := (List.getElem?_inj (by omega) nd).mp ek2
        omega
      have few2 : (namedK B (zs.take i) (ns.take i)).length < sizeLine := by
        unfold namedK
        rw [List.length_map, List.length_zip, List.length_take, sizeLine_eq]
        omega
      have fin : upd H3 D (.dK (putK (namedK B (zs.take i) (ns.take i)) (.inr z) (pV (toldV B n)))) D = some (.dK (namedK B (zs.take (i + 1)) (ns.take (i + 1)))) := by rw [upd_same, et, put_new fresh]
      refine ⟨.str z, rfl, ?_⟩
      walk_at "1"
      by_cases l : n < B
      · rw [toldV, if_pos l] at fin
        rw [if_pos l]
        exact ⟨_, .inr z, rfl, gD3, few2, Off.trans o3 off_upd, fin⟩
      · rw [toldV, if_neg l] at fin
        rw [if_neg l]
        exact ⟨_, .inr z, rfl, gD3, few2, Off.trans o3 off_upd, fin⟩
    · intro H2 ⟨o2, gD⟩
      rw [List.length_map, show (iV ns).length = ns.length from List.length_map _, ← same, Nat.min_self, List.take_length, same, List.take_length] at gD
      exact q D H2 (o2.same hD) hD gD
end
end U
namespace U
open PySem PySem.Spec PyProof.Rows L2

/-! ### comprehensions of two clauses -/
def lc3T (g : TG) (tt : TT) (te : TE) (vs : List Nat) (σ : L2.St) (D : Addr) (N : Hp → Prop) (x : V) (H : Hp) : Prop :=
  g x (wipe σ vs) H fun τ H2 => wipe τ vs = wipe σ vs ∧ tt τ H2 fun b H3 => if b = true then te τ H3 (fun y H4 => ∃ acc, H4 D = some (.lst acc) ∧ acc.length < sizeLine ∧ N (upd H4 D (.lst (acc ++ [y])))) else N H3
def lc2T (g : TG) (tt : TT) (wi1 : TI) (g1 : TG) (tt1 : TT) (te : TE) (vs vs1 : List Nat) (σ : L2.St) (D : Addr) (N : Hp → Prop) (x : V) (H : Hp) : Prop :=
  g x (wipe σ vs) H fun τ H2 => wipe τ vs = wipe σ vs ∧ tt τ H2 fun b H3 => if b = true then wi1 τ H3 fun J1 H4 => Laps J1 H4 N fun y H5 N1 => lc3T g1 tt1 te vs1 τ D N1 y H5 else N H3
theorem tLc2_of {wi : TI} {g : TG} {tt : TT} {wi1 : TI} {g1 : TG} {tt1 : TT} {te : TE} {vs vs1 : List Nat} {σ : L2.St} {H : Hp} {Q : VK} (h : wi σ H fun J H1 => ∀ D, H1 D = none → Laps J (upd H1 D (.lst [])) (Q (.ref D)) fun x H' N => lc2T g tt wi1 g1 tt1 te vs vs1 σ D N x H') :
    tLc2 wi g tt wi1 g1 tt1 te vs vs1 σ H Q := h
/-! ### the prices of a reckoning -/
def PrB (K : PySem.W.Frag) (H : Hp) (l : Addr) (qs : List (List Int)) : Prop := ∃ bs : List Addr, H l = some (.lst (bs.map V.ref)) ∧ bs.length = qs.length ∧ ∀ (i : Nat) (b : Addr) (q : List Int), bs[i]? = some b → qs[i]? = some q → SqT K H b (iV q)
theorem PrB.same {K : PySem.W.Frag} {H H' : Hp} {l : Addr} {qs : List (List Int)} (e : Same H H') (h : PrB K H l qs) : PrB K H' l qs := by
  obtain ⟨bs, h1, h2, h3⟩ := h
  exact ⟨bs, e _ _ h1, h2, fun i b q z1 z2 => Same.sqT e (h3 i b q z1 z2)⟩
def rowI (B : Int) (r : List (Option Int)) : List Int := r.map fun o => o.getD B
def RowsT (K : PySem.W.Frag) (H : Hp) (t : Addr) (rows : List (List (Option Int))) : Prop := ∃ as : List Addr, SqT K H t (as.map V.ref) ∧ as.length = rows.length ∧ rows.length ≤ 60 ∧ (∀ (i : Nat) (a : Addr) (r : List (Option Int)), as[i]? = some a → rows[i]? = some r → SqT K H a (r.map pV)) ∧ ∀ r ∈ rows, r.length = 6
theorem RowsT.same {K : PySem.W.Frag} {H H' : Hp} {t : Addr} {rows : List (List (Option Int))} (e : Same H H') (h : RowsT K H t rows) : RowsT K H' t rows := by
  obtain ⟨as, h1, h2, h3, h4, h5⟩ := h
  exact ⟨as, Same.sqT e h1, h2, h3, fun i a r z1 z2 => Same.sqT e (h4 i a r z1 z2), h5⟩
def sp_without_bars (K : PySem.W.Frag) : Sp := sp2 fun x y H Q _ => ∃ t rows B, x = .ref t ∧ y = .int B ∧ RowsT K H t rows ∧ ∀ l H', Same H H' → H l = none → PrB K H' l (rows.reverse.map (rowI B)) → Q (.ref l) H'
def t_without_bars (K : PySem.W.Frag) (E : XK) : TS := (tRet (tLc (iSeq K (tRevU K (tVar 0))) (gName 2) tYes (tIf (tTest (tOp (uIn K false) (tC .non) (tVar 2))) (tCB (uTup K) (tCons (tLc (iSeq K (tVar 2)) (gName 3) tYes (tIf (tTest (tOp uIs (tVar 3) (tC .non))) (tVar 1) (tVar 3)) [3]) tNil)) (tVar 2)) [2]))
section
variable {K : PySem.W.Frag} (F : KF K) (R : KR K) {vs : List V} {H : Hp} {Q : VK} {E : XK}
local macro_rules | `(tactic| walk_at "w") => `(tactic| try simp only [turnE, lcT, Snoc, tRet, tRetN, tAndV, tOrV, tNotV, tCB, tCons, tVar, tNil, tC, tOp, tSeq, tAsg, gName, gSub, tIfS, tDrop, tFn, tTup, tLst, tNext, tB, tTest, tNot, tAnd, tOr, tIf, tChain, tUn, rU, tFld, tPart, tNoPart, L2.tSl, tBM, tPar, tPar3, tTruth, tDNewK,
  L2.start, List.map_cons, List.map_nil, List.length_cons, List.length_nil, List.replicate_succ, List.replicate_zero, List.append_nil, List.nil_append, List.cons_append, List.singleton_append, Nat.sub_self, Nat.zero_add, Nat.reduceAdd, Nat.reduceSub,
  List.getElem?_cons_zero, List.getElem?_cons_succ, List.set_cons_zero, List.set_cons_succ, Option.some.injEq, exists_eq_left, exists_eq_left', V.int.injEq, V.bl.injEq, V.str.injEq, V.ref.injEq,
  uAdd_int, uAdd_str, uSub_int, uMul_int, uMul_str, uDiv_int, uMod_int, uPow_int, uLt_int, uLe_int, uGt_int, uGe_int, uIs_non, uNis_non, uIs_bl, uNis_bl, sp1, sp2, sp3, sp4, uEq_int, uEq_str, uNe_int, uNe_str, uSl_str, uLen_str, decide_eq_true_eq])
local macro_rules | `(tactic| walk_at "1") => `(tactic| try simp only [turnE, lcT, Snoc, tRet, tRetN, tAndV, tOrV, tNotV, tCB, tCons, tVar, tNil, tC, tOp, tAsg, gName, gSub, tIfS, tDrop, tFn, tTup, tLst, tNext, tB, tTest, tNot, tAnd, tOr, tIf, tChain, tUn, rU, tFld, tPart, tNoPart, L2.tSl, tBM, tPar, tPar3, tTruth, tDNewK,
  L2.start, List.map_cons, List.map_nil, List.length_cons, List.length_nil, List.replicate_succ, List.replicate_zero, List.append_nil, List.nil_append, List.cons_append, List.singleton_append, Nat.sub_self, Nat.zero_add, Nat.reduceAdd, Nat.reduceSub,
  List.getElem?_cons_zero, List.getElem?_cons_succ, List.set_cons_zero, List.set_cons_succ, Option.some.injEq, exists_eq_left, exists_eq_left', V.int.injEq, V.bl.injEq, V.str.injEq, V.ref.injEq,
  uAdd_int, uAdd_str, uSub_int, uMul_int, uMul_str, uDiv_int, uMod_int, uPow_int, uLt_int, uLe_int, uGt_int, uGe_int, uIs_non, uNis_non, uIs_bl, uNis_bl, sp1, sp2, sp3, sp4, uEq_int, uEq_str, uNe_int, uNe_str, uSl_str, uLen_str, decide_eq_true_eq])
local macro_rules | `(tactic| walk_at "s") => `(tactic| ((try dsimp only [turnE]); with_reducible refine seq_ ?_))

theorem in_nons (r : List (Option Int)) : inV .non (r.map pV) = r.contains none := by
  unfold inV
  induction r with
  | nil => rfl
  | cons o t ih =>
    rw [List.map_cons, List.any_cons, ih, List.contains_cons]
    cases o <;> rfl
theorem flat_pvs (r : List (Option Int)) : (r.map pV).all flatV = true := by
  rw [List.all_map]
  refine List.all_eq_true.mpr fun o _ => ?_
  cases o <;> rfl
theorem rowI_full {B : Int} {r : List (Option Int)} (h : r.contains none = false) : (rowI B r).map V.int = r.map pV := by
  unfold rowI
  rw [List.map_map]
  refine List.map_congr_left fun o m => ?_
  cases o with
  | none => rw [List.contains_iff_mem.mpr m] at h; cases h
  | some i => rfl
include F in
theorem read_without_bars (h : sp_without_bars K vs H Q E) : t_without_bars K E { nx := fun _ H' => Q .non H', rt := Q } (start ["rows", "bound", "row", "price"] vs) H := by
  match vs, h with
  | [_, _], ⟨t, rows, B, rfl, rfl, ⟨as, h1, h2, h3, h4, h5⟩, q⟩ =>
    unfold t_without_bars
    simp only [tRet]
    refine tLc_inT ?_
    refine .inr ⟨.ref t, rfl, t, _, rfl, h1, fun p hp => ⟨p, rfl, ⟨_, .inl (.inl upd_same)⟩, fun D hD => ?_⟩⟩
    have s1 : Same H (upd H p (.tup (as.map V.ref).reverse)) := same_new hp
    have g1 : upd H p (.tup (as.map V.ref).reverse) p = some (.tup (as.reverse.map V.ref)) := by rw [upd_same, List.map_reverse]
    generalize upd H p (.tup (as.map V.ref).reverse) = H1 at *
    refine lc_grow (plain_T (K := K) (a := p) (xs := as.reverse.map V.ref)) (fun acc H' => ∃ bs : List Addr, acc = bs.map V.ref ∧ bs.length ≤ rows.length ∧ ∀ (i : Nat) (b : Addr) (z : List Int), bs[i]? = some b → (rows.reverse.map (rowI B))[i]? = some z → SqT K H' b (iV z)) hD
      (by rw [List.length_map, List.length_reverse, h2]; exact Nat.le_trans h3 (by decide)) (fun H' s => Same.sqT s (.inl (.inl g1))) (fun _ _ => ⟨[], rfl, Nat.zero_le _, fun i b z e => nomatch e⟩) ?_ ?_ ?_
    · rintro acc l H2 H3 hl o ⟨bs, e1, e2, e3⟩
      exact ⟨bs, e1, e2, fun i b z z1 z2 => o.sqT hl (e3 i b z z1 z2)⟩
    · rintro i y acc H2 Q' hy s hl ⟨bs, e1, e2, e3⟩ k
      rw [List.getElem?_map] at hy
      obtain ⟨c, hc, rfl⟩ := Option.map_eq_some_iff.mp hy
      have lt : i < rows.length := by
        have := (List.getElem?_eq_some_iff.mp hc).1
        rw [List.length_reverse, h2] at this
        exact this
      have hl2 : bs.length = i := by rw [e1, List.length_map] at hl; exact hl
      have er : rows.reverse[i]? = some rows[rows.length - 1 - i] := by
        rw [List.getElem?_reverse lt]
        exact List.getElem?_eq_getElem _
      have ec : as[rows.length - 1 - i]? = some c := by
        rw [List.getElem?_reverse (by rw [h2]; exact lt), h2] at hc
        exact hc
      have hq := h4 _ c _ ec (List.getElem?_eq_getElem (show rows.length - 1 - i < rows.length by omega))
      have l6 : (rows[rows.length - 1 - i]).length = 6 := h5 _ (List.getElem_mem _)
      generalize rows[rows.length - 1 - i] = r at *
      have hq2 := Same.sqT (s1.trans s) hq
      have step : ∀ (b : Addr) (H3 : Hp), Same H2 H3 → SqT K H3 b (iV (rowI B r)) → Q' (.ref b) H3 := fun b H3 s3 hb => by
        refine k _ _ s3 ⟨bs ++ [b], by simp [e1], by simp; omega, fun j d z z1 z2 => ?_⟩
        by_cases e : j = i
        · subst e
          rw [List.getElem?_append_right (by omega), hl2] at z1
          simp at z1
          subst z1
          rw [List.getElem?_map, er] at z2
          cases z2
          exact hb
        · have : j < bs.length := by
            have := (List.getElem?_eq_some_iff.mp z1).1
            simp at this
            omega
          rw [List.getElem?_append_left this] at z1
          exact Same.sqT s3 (e3 j d z z1 z2)
      walk_at "1"
      refine ⟨c, _, rfl, .inr hq2, rfl, flat_pvs r, _, rfl, ?_⟩
      rw [if_neg (show ¬ false = true by decide), in_nons]
      by_cases nb : r.contains none = true
      · rw [if_pos nb]
        refine tLc_inT ⟨.ref c, rfl, c, rfl, ⟨_, hq2⟩, fun D2 hD2 => ?_⟩
        refine lc_grow (plain_T (K := K) (a := c) (xs := r.map pV)) (fun acc _ => acc = ((rowI B r).take acc.length).map V.int) hD2 (by
            rw [List.length_map, l6]; decide) (fun H' s => Same.sqT s hq2) (fun _ _ => rfl) (fun _ _ _ _ _ _ z => z) ?_ ?_
        · rintro j z acc H3 Q3 hz s3 hl3 e3' k3
          rw [List.getElem?_map] at hz
          obtain ⟨o, ho, rfl⟩ := Option.map_eq_some_iff.mp hz
          have fin : ∀ v, v = V.int (o.getD B) → Q3 v H3 := fun v ev => by
            subst ev
            refine k3 _ H3 (Same.refl _) ?_
            have lo := (List.getElem?_eq_some_iff.mp ho).1
            have lr : j < (rowI B r).length := by unfold rowI; rw [List.length_map]; exact lo
            have e4 : acc = ((rowI B r).take j).map V.int := by rw [hl3] at e3'; exact e3'
            have : (rowI B r)[j] = o.getD B := by
              have e5 : (rowI B r)[j]? = some (o.getD B) := by
                unfold rowI
                rw [List.getElem?_map, ho]
                rfl
              exact (List.getElem?_eq_some_iff.mp e5).2
            rw [List.length_append, List.length_singleton, hl3, List.take_succ_eq_append_getElem lr, List.map_append, this, ← e4]
            rfl
          walk_at "1"
          cases o with
          | none => exact fin _ rfl
          | some i => exact fin _ rfl
        · rintro acc H3 hl3 s3 gD2 e3'
          rw [List.length_map, l6] at hl3
          rw [hl3, List.take_of_length_le (by unfold rowI; rw [List.length_map, l6]; exact Nat.le_refl _)] at e3'
          subst e3'
          exact ⟨_, .inl ⟨.inl (.inl gD2), fun l hl => step l _ (s3.trans (same_new hl)) (.inl (.inl upd_same))⟩⟩
      · rw [if_neg nb]
        refine step c H2 (Same.refl _) ?_
        rw [show iV (rowI B r) = r.map pV from rowI_full (by simpa using nb)]
        exact hq2
    · rintro acc H2 hl s gD ⟨bs, e1, e2, e3⟩
      subst e1
      rw [List.length_map, List.length_map, List.length_reverse, h2] at hl
      refine q D H2 (s1.trans s) ?_ ⟨bs, gD, by rw [List.length_map, List.length_reverse, hl], e3⟩
      exact s1.free hD
end
end U
namespace U
open PySem PySem.Spec PyProof.Rows L2

/-! ### the reckoning of some rows -/
def colN : Nat → Nat → Nat
  | 0, 1 => 0
  | 0, 2 => 1
  | 1, 0 => 2
  | 1, 2 => 3
  | 2, 0 => 4
  | _, _ => 5
def fnOf (q : List Int) (i j : Nat) : Int := (q[colN i j]?).getD 0
theorem six_fn {q : List Int} (h : q.length = 6) : six (fnOf q) = q := by
  match q, h with
  | [a, b, c, d, e, f], _ => rfl
/-- the levels of the costs from tower to tower, for no crates and so on -/
def levelQ (qs : List (List Int)) (k : Nat) : Nat → Nat → Int := levelN (((qs.take k).map fnOf).reverse)
def towersL (qs : List (List Int)) : List (List Int) := (List.range (qs.length + 1)).map fun k => six (levelQ qs k)
theorem levelQ_succ {qs : List (List Int)} {k : Nat} {q : List Int} (h : qs[k]? = some q) : levelQ qs (k + 1) = stepN (fnOf q) (levelQ qs k) := by
  have lt := (List.getElem?_eq_some_iff.mp h).1
  unfold levelQ
  rw [List.take_succ_eq_append_getElem lt, List.map_append, List.reverse_append, (List.getElem?_eq_some_iff.mp h).2]
  rfl
def priced (rows : List (List (Option Int))) : List Int := rows.flatMap fun r => r.filterMap id
/-- a bound of all prices -/
def Great (rows : List (List (Option Int))) (g : Int) : Prop := 0 < g ∧ g < 10 ^ 33 ∧ ∀ p ∈ priced rows, 0 < p ∧ p ≤ g
/-- the six numbers of the ways back -/
def turnQ (q : List Int) : List Int := six fun i j => fnOf q j i
/-- the numbers of a reckoning -/
def RkN0 (K : PySem.W.Frag) (H : Hp) (a : Addr) (B : Int) (qs : List (List Int)) : Prop := ∃ lp lt : Addr, RkAt K H a B (.ref lp) (.ref lt) ∧ PrB K H lp qs ∧ PrB K H lt (towersL qs)
/-- what a reckoning keeps: nothing yet, or that of the ways back -/
def Bk (K : PySem.W.Frag) (H : Hp) (bk : V) (B : Int) (qs : List (List Int)) : Prop := bk = .non ∨ ∃ b, bk = .ref b ∧ RkN0 K H b B (qs.map turnQ)
def RkO (K : PySem.W.Frag) (H : Hp) (a : Addr) (rows : List (List (Option Int))) : Prop := ∃ (g : Int) (lp lt : Addr), Great rows g ∧ (∃ dx bk, H a = some (.ins (He.ga K "Reckoning") dx (rkF (g * 4 ^ rows.length) (.ref lp) (.ref lt) bk)) ∧ Bk K H bk (g * 4 ^ rows.length) (rows.reverse.map (rowI (g * 4 ^ rows.length)))) ∧ PrB K H lp (rows.reverse.map (rowI (g * 4 ^ rows.length))) ∧ PrB K H lt (towersL (rows.reverse.map (rowI (g * 4 ^ rows.length))))
def PricesOk (rows : List (List (Option Int))) : Prop := ∀ p ∈ priced rows, 0 < p ∧ p < 10 ^ 33
def sp_reckoning_of (K : PySem.W.Frag) : Sp := sp1 fun x H Q _ => ∃ t rows, x = .ref t ∧ RowsT K H t rows ∧ PricesOk rows ∧ ∀ a H', Same H H' → H a = none → RkO K H' a rows → Q (.ref a) H'
def t_reckoning_of (K : PySem.W.Frag) (E : XK) : TS := (tSeq (tAsg (tCKw (rMaxDf K) (tCons (tLc2 (iSeq K (tVar 0)) (gName 6) tYes (iSeq K (tVar 6)) (gName 7) (tTest (tOp uNis (tVar 7) (tC .non))) (tVar 7) [6, 7] [7]) tNil) (tCons (tC (.int 1)) tNil)) (gName 1)) (tSeq (tAsg (tOp uShl (tVar 1) (tOp uMul (tC (.int 2)) (tCB (uLen K) (tCons (tVar 0) tNil)))) (gName 2)) (tSeq (tAsg (tFn (sp_without_bars K) E (tCons (tVar 0) (tCons (tVar 2) tNil))) (gName 3)) (tSeq (tAsg (tLst (tCons (tTup (tCons (tC (.int 0)) (tCons (tC (.int 0)) (tCons (tC (.int 0)) (tCons (tC (.int 0)) (tCons (tC (.int 0)) (tCons (tC (.int 0)) tNil))))))) tNil)) (gName 4)) (tSeq (tFor (iSeq K (tVar 3)) (gName 5) (tDrop (tBM K "list" rAppend (tVar 4) (tCons (tFn (sp_towers_above K) E (tCons (tVar 5) (tCons (tOp (uIx K) (tVar 4) (tUn (rU fun i => .int (-i)) (tC (.int 1)))) tNil))) tNil)))) (tRet (tMake (He.ga K "Reckoning") (sp_Reckoning_init K) [] E (tCons (tVar 2) (tCons (tVar 3) (tCons (tVar 4) tNil))))))))))
section
variable {K : PySem.W.Frag} (F : KF K) (R : KR K) {vs : List V} {H : Hp} {Q : VK} {E : XK}
local macro_rules | `(tactic| walk_at "w") => `(tactic| try simp only [turnE, lcT, Snoc, tRet, tRetN, tAndV, tOrV, tNotV, tCB, tCons, tVar, tNil, tC, tOp, tSeq, tAsg, gName, gSub, tIfS, tDrop, tFn, tTup, tLst, tNext, tB, tTest, tNot, tAnd, tOr, tIf, tChain, tUn, rU, tFld, tPart, tNoPart, L2.tSl, tBM, tPar, tPar3, tTruth, tDNewK,
  L2.start, List.map_cons, List.map_nil, List.length_cons, List.length_nil, List.replicate_succ, List.replicate_zero, List.append_nil, List.nil_append, List.cons_append, List.singleton_append, Nat.sub_self, Nat.zero_add, Nat.reduceAdd, Nat.reduceSub,
  List.getElem?_cons_zero, List.getElem?_cons_succ, List.set_cons_zero, List.set_cons_succ, Option.some.injEq, exists_eq_left, exists_eq_left', V.int.injEq, V.bl.injEq, V.str.injEq, V.ref.injEq,
  uAdd_int, uAdd_str, uSub_int, uMul_int, uMul_str, uDiv_int, uMod_int, uPow_int, uLt_int, uLe_int, uGt_int, uGe_int, uIs_non, uNis_non, uIs_bl, uNis_bl, sp1, sp2, sp3, sp4, uEq_int, uEq_str, uNe_int, uNe_str, uSl_str, uLen_str, decide_eq_true_eq])
local macro_rules | `(tactic| walk_at "1") => `(tactic| try simp only [turnE, lcT, Snoc, tRet, tRetN, tAndV, tOrV, tNotV, tCB, tCons, tVar, tNil, tC, tOp, tAsg, gName, gSub, tIfS, tDrop, tFn, tTup, tLst, tNext, tB, tTest, tNot, tAnd, tOr, tIf, tChain, tUn, rU, tFld, tPart, tNoPart, L2.tSl, tBM, tPar, tPar3, tTruth, tDNewK,
  L2.start, List.map_cons, List.map_nil, List.length_cons, List.length_nil, List.replicate_succ, List.replicate_zero, List.append_nil, List.nil_append, List.cons_append, List.singleton_append, Nat.sub_self, Nat.zero_add, Nat.reduceAdd, Nat.reduceSub,
  List.getElem?_cons_zero, List.getElem?_cons_succ, List.set_cons_zero, List.set_cons_succ, Option.some.injEq, exists_eq_left, exists_eq_left', V.int.injEq, V.bl.injEq, V.str.injEq, V.ref.injEq,
  uAdd_int, uAdd_str, uSub_int, uMul_int, uMul_str, uDiv_int, uMod_int, uPow_int, uLt_int, uLe_int, uGt_int, uGe_int, uIs_non, uNis_non, uIs_bl, uNis_bl, sp1, sp2, sp3, sp4, uEq_int, uEq_str, uNe_int, uNe_str, uSl_str, uLen_str, decide_eq_true_eq])
local macro_rules | `(tactic| walk_at "s") => `(tactic| ((try dsimp only [turnE]); with_reducible refine seq_ ?_))

/-- the list of the prices that are no bars -/
theorem priced_of {t D : Addr} {rows : List (List (Option Int))} {x0 x1 x2 x3 x4 x5 : Option V} {Q : Hp → Prop} {as : List Addr} (h1 : SqT K H t (as.map V.ref)) (h2 : as.length = rows.length) (h3 : rows.length ≤ 60) (h4 : ∀ (i : Nat) (a : Addr) (r : List (Option Int)), as[i]? = some a → rows[i]? = some r → SqT K H a (r.map pV)) (h5 : ∀ r ∈ rows, r.length = 6) (hD : H D = none)
    (q : ∀ H', Same H H' → H' D = some (.lst ((priced rows).map V.int)) → Q H') :
    Laps (Itt K t) (upd H D (.lst [])) Q fun x H' N => lc2T (gName 6) tYes (iSeq K (tVar 6)) (gName 7) (tTest (tOp uNis (tVar 7) (tC .non))) (tVar 7) [6, 7] [7] [x0, x1, x2, x3, x4, x5, none, none] D N x H' := by
  have lenP : ∀ l : List (List (Option Int)), (∀ r ∈ l, r.length = 6) → (priced l).length ≤ 6 * l.length := by
    intro l
    induction l with
    | nil => intro _; exact Nat.le_refl _
    | cons r s ih =>
      intro h
      have := ih fun x m => h x (List.mem_cons_of_mem _ m)
      have h6 := h r List.mem_cons_self
      have := List.length_filterMap_le id r
      unfold priced at *
      rw [List.flatMap_cons, List.length_append, List.length_cons]
      omega
  refine it_plain (plain_T (K := K) (a := t) (xs := as.map V.ref)) (fun i H' => Same H H' ∧ H' D = some (.lst ((priced (rows.take i)).map V.int))) ⟨same_new hD, upd_same⟩ (fun i H' z => Same.sqT z.1 h1) ?_ ?_
  · rintro i x H2 hx ⟨s2, gD⟩
    rw [List.getElem?_map] at hx
    obtain ⟨a, ha, rfl⟩ := Option.map_eq_some_iff.mp hx
    have lt : i < rows.length := by rw [← h2]; exact (List.getElem?_eq_some_iff.mp ha).1
    have hr : rows[i]? = some rows[i] := List.getElem?_eq_getElem lt
    have ht := Same.sqT s2 (h4 i a _ ha hr)
    have l6 := h5 _ (List.getElem_mem lt)
    have few : (priced (rows.take i)).length ≤ 360 := by
      have := lenP (rows.take i) fun r m => h5 r (List.mem_of_mem_take m)
      rw [List.length_take] at this
      omega
    have grow : priced (rows.take (i + 1)) = priced (rows.take i) ++ (rows[i]).filterMap id := by
      unfold priced
      rw [List.take_succ_eq_append_getElem lt, List.flatMap_append, List.flatMap_cons, List.flatMap_nil, List.append_nil]
    generalize rows[i] = r at *
    generalize priced (rows.take i) = ps at *
    unfold lc2T
    refine ⟨rfl, ?_⟩
    unfold tYes
    dsimp only
    rw [if_pos rfl]
    refine .inr ⟨.ref a, rfl, a, rfl, ⟨_, ht⟩, ?_⟩
    refine it_plain (plain_T (K := K) (a := a) (xs := r.map pV)) (fun j H' => Same H H' ∧ H' D = some (.lst ((ps ++ (r.take j).filterMap id).map V.int)) ∧ SqT K H' a (r.map pV)) ⟨s2, by rw [List.take_zero]; simpa using gD, ht⟩ (fun j H' z => z.2.2) ?_ ?_
    · rintro j y H3 hy ⟨s3, gD3, ht3⟩
      rw [List.getElem?_map] at hy
      obtain ⟨o, ho, rfl⟩ := Option.map_eq_some_iff.mp hy
      have lo := (List.getElem?_eq_some_iff.mp ho).1
      have et : (r.take (j + 1)).filterMap id = (r.take j).filterMap id ++ [o].filterMap id := by
        rw [List.take_succ_eq_append_getElem lo, List.filterMap_append, (List.getElem?_eq_some_iff.mp ho).2]
      have fewJ : ((r.take j).filterMap id).length ≤ 6 := by
        have := List.length_filterMap_le id (r.take j)
        rw [List.length_take] at this
        omega
      rw [et]
      unfold lc3T
      refine ⟨rfl, ?_⟩
      cases o with
      | none =>
        refine ⟨_, rfl, ?_⟩
        simp only [tC, uNis, pV]
        refine ⟨_, rfl, ?_⟩
        rw [if_neg (by decide)]
        exact ⟨s3, by rw [show ([none] : List (Option Int)).filterMap id = [] from rfl, List.append_nil]; exact gD3, ht3⟩
      | some i =>
        refine ⟨_, rfl, ?_⟩
        simp only [tC, uNis, pV]
        refine ⟨_, rfl, ?_⟩
        rw [if_pos (by simp)]
        refine ⟨_, rfl, _, gD3, ?_, ?_⟩
        · rw [List.length_map, List.length_append, sizeLine_eq]
          omega
        · refine ⟨(Off.trans (Same.off s3) off_upd).same hD, ?_, ?_⟩
          · rw [upd_same, show ([some i] : List (Option Int)).filterMap id = [i] from rfl, ← List.append_assoc, List.map_append, List.map_append, List.map_append]
            rfl
          · exact Off.sqT off_upd gD3 ht3
    · rintro H3 ⟨s3, gD3, _⟩
      rw [List.length_map, l6, List.take_of_length_le (by rw [l6]; exact Nat.le_refl _)] at gD3
      exact ⟨s3, by rw [grow]; exact gD3⟩
  · rintro H2 ⟨s2, gD⟩
    rw [List.length_map, h2, List.take_length] at gD
    exact q H2 s2 gD
theorem max_great {D : Addr} {rows : List (List (Option Int))} (hD : H D = some (.lst ((priced rows).map V.int))) (ok : PricesOk rows) (q : ∀ g, Great rows g → Q (.int g) H) : rMaxDf K [.ref D] [.int 1] H Q :=
  ⟨D, priced rows, .int 1, rfl, rfl, .inl (.inl hD), fun e => q 1 ⟨by decide, by decide, fun p m => by rw [e] at m; cases m⟩, fun m hm hle => q m ⟨(ok m hm).1, (ok m hm).2, fun p mp => ⟨(ok p mp).1, hle p mp⟩⟩⟩
theorem tFor_seqL {t : TE} {g : TG} {tb : TS} {D : Ends} {σ : L2.St} (h : t σ H fun x H1 => ∃ a, x = .ref a ∧ (∃ xs, SqL K H1 a xs) ∧ tFor (fun _ H' R => R (Itl K a) H') g tb D σ H1) : tFor (iSeq K t) g tb D σ H := .inl h
theorem at_end {xs : List V} {v : V} {n : Nat} (h : xs.length = n + 1) (e : xs[n]? = some v) : atI xs (-1) = some v := by
  unfold atI ixN
  rw [h, if_neg (by decide), if_pos (by omega)]
  show xs[((n + 1 : Nat) + (-1) : Int).toNat]? = some v
  rw [show ((n + 1 : Nat) + (-1) : Int).toNat = n by omega]
  exact e
theorem pow_4 (n : Nat) : (2 : Int) ^ (2 * (n : Int)).toNat = 4 ^ n := by
  rw [show (2 * (n : Int)).toNat = 2 * n by omega, Int.pow_mul]
  rfl
include F R in
theorem read_reckoning_of (h : sp_reckoning_of K vs H Q E) : t_reckoning_of K E { nx := fun _ H' => Q .non H', rt := Q } (start ["rows", "greatest", "bound", "prices", "towers", "six", "row", "price"] vs) H := by
  match vs, h with
  | [_], ⟨t, rows, rfl, ⟨as, h1, h2, h3, h4, h5⟩, ok, q⟩ =>
    unfold t_reckoning_of
    walk_at "s"
    simp only [tCKw, tAsg]
    refine tLc2_of ?_
    refine .inr ⟨.ref t, rfl, t, rfl, ⟨_, h1⟩, fun D hD => ?_⟩
    refine priced_of h1 h2 h3 h4 h5 hD fun H1 s1 gD => ?_
    walk_at "1"
    refine max_great gD ok fun g hg => ?_
    have hn : (as.map V.ref).length = rows.length := by rw [List.length_map, h2]
    walk_at "s"
    walk_at "1"
    refine uLen_seq (.inr (Same.sqT s1 h1)) ?_
    walk_at "1"
    rw [hn]
    have gA : g.natAbs < 10 ^ 33 := by
      have := hg.1
      have := hg.2.1
      omega
    refine ⟨.inl (by decide), cshl_of (j := 2 * rows.length) gA (by omega), ?_⟩
    dsimp only
    rw [show ((2 * (rows.length : Int)).toNat) = (2 * (rows.length : Int)).toNat from rfl, pow_4]
    walk_at "s"
    walk_at "1"
    refine ⟨t, rows, _, rfl, rfl, ⟨as, Same.sqT s1 h1, h2, h3, fun i a r z1 z2 => Same.sqT s1 (h4 i a r z1 z2), h5⟩, fun lp H2 s2 np pr => ?_⟩
    walk_at "s"
    walk_at "1"
    refine ⟨by decide, fun z nz => ⟨by decide, fun lt nt => ?_⟩⟩
    have s3 : Same H2 (upd H2 z (.tup (iV [0, 0, 0, 0, 0, 0]))) := same_new nz
    have gz : upd H2 z (.tup (iV [0, 0, 0, 0, 0, 0])) z = some (.tup (iV [0, 0, 0, 0, 0, 0])) := upd_same
    change upd H2 z (.tup (iV [0, 0, 0, 0, 0, 0])) lt = none at nt
    show tSeq _ _ _ _ (upd (upd H2 z (.tup (iV [0, 0, 0, 0, 0, 0]))) lt (.lst [.ref z]))
    generalize upd H2 z (.tup (iV [0, 0, 0, 0, 0, 0])) = H3 at *
    have s4 : Same H3 (upd H3 lt (.lst [.ref z])) := same_new nt
    have gl : upd H3 lt (.lst [.ref z]) lt = some (.lst [.ref z]) := upd_same
    generalize upd H3 lt (.lst [.ref z]) = H4 at *
    generalize hB : g * 4 ^ rows.length = B at *
    generalize hqs : rows.reverse.map (rowI B) = qs at *
    have lq : qs.length = rows.length := by rw [← hqs, List.length_map, List.length_reverse]
    have l6 : ∀ q ∈ qs, q.length = 6 := fun x m => by
      rw [← hqs] at m
      obtain ⟨r, mr, rfl⟩ := List.mem_map.mp m
      unfold rowI
      rw [List.length_map]
      exact h5 r (List.mem_reverse.mp mr)
    have pr3 := pr.same s3
    obtain ⟨bs, p1, p2, p3⟩ := id pr3
    walk_at "s"
    refine tFor_seqL ?_
    refine ⟨.ref lp, rfl, lp, rfl, ⟨_, .inl (.inl (s4 _ _ p1))⟩, ?_⟩
    refine for_plain (plain_L (K := K) (a := lp) (xs := bs.map V.ref)) (fun R r => r)
      (fun i τ H' => (∃ o5, τ = [some (.ref t), some (.int g), some (.int B), some (.ref lp), some (.ref lt), o5, none, none]) ∧ Same H3 H' ∧ ∃ cs : List Addr, H' lt = some (.lst (cs.map V.ref)) ∧ cs.length = i + 1 ∧ ∀ (j : Nat) (c : Addr), cs[j]? = some c → SqT K H' c (iV (six (levelQ qs j))))
      ⟨⟨_, rfl⟩, s4, [z], gl, rfl, fun j c e => ?_⟩ (fun i τ H' z => .inl (.inl (z.2.1 _ _ p1))) ?_ ?_
    · match j, e with
      | 0, e =>
        cases e
        exact .inl (.inl (s4 _ _ gz))
    · rintro i x τ H5 hx ⟨⟨o5, rfl⟩, s5, cs, k1, k2, k3⟩
      rw [List.getElem?_map] at hx
      obtain ⟨c, hc, rfl⟩ := Option.map_eq_some_iff.mp hx
      have lt' : i < qs.length := by rw [← p2]; exact (List.getElem?_eq_some_iff.mp hc).1
      have hq : qs[i]? = some qs[i] := List.getElem?_eq_getElem lt'
      have tq := Same.sqT s5 (p3 i c _ hc hq)
      have m6 := l6 _ (List.getElem_mem lt')
      have next := levelQ_succ hq
      generalize qs[i] = w at *
      obtain ⟨d, hd⟩ : ∃ d, cs[i]? = some d := ⟨_, List.getElem?_eq_getElem (by omega)⟩
      simp only [gName, List.set_cons_zero, List.set_cons_succ]
      walk_at "1"
      refine ⟨Or.inl ⟨rfl, _, .inl (.inl k1)⟩, ?_⟩
      refine ⟨_, .ref d, .inl (.inl (.inl k1)), at_end (n := i) (by rw [List.length_map, k2]) (by rw [List.getElem?_map, hd]; rfl), ?_⟩
      refine ⟨c, d, fnOf w, levelQ qs i, rfl, rfl, by rw [six_fn m6]; exact tq, k3 i d hd, fun r H6 s6 nr gr => ?_⟩
      refine ⟨lt, _, .ref r, rfl, rfl, s6 _ _ k1, by rw [List.length_map, k2, sizeLine_eq]; omega, ?_⟩
      have k1' := s6 _ _ k1
      have nrl : r ≠ lt := by rintro rfl; rw [k1] at nr; cases nr
      have o7 : Off lt H6 (upd H6 lt (.lst (cs.map V.ref ++ [.ref r]))) := off_upd
      refine ⟨⟨_, rfl⟩, (Off.trans (Same.off (s5.trans s6)) o7).same nt, cs ++ [r], by rw [upd_same, List.map_append]; rfl, by rw [List.length_append, k2]; rfl, fun j c2 e => ?_⟩
      by_cases lj : j < cs.length
      · rw [List.getElem?_append_left lj] at e
        exact o7.sqT k1' (Same.sqT s6 (k3 j c2 e))
      · have ej : j = i + 1 := by
          have := (List.getElem?_eq_some_iff.mp e).1
          rw [List.length_append, List.length_singleton] at this
          omega
        subst ej
        rw [List.getElem?_append_right (by omega), k2, Nat.sub_self] at e
        cases e
        rw [next]
        exact o7.sqT k1' (.inl (.inl gr))
    · rintro τ H5 ⟨⟨o5, rfl⟩, s5, cs, k1, k2, k3⟩
      walk_at "1"
      refine ⟨_, rfl, _, rfl, _, rfl, fun y dy ny nd ne => ?_⟩
      have s6 : Same H5 (upd (upd H5 dy (.own y)) y (.ins (He.ga K "Reckoning") dy [])) := fun b o e => by
        rw [upd_ne (ne_of_none e ny), upd_ne (ne_of_none e nd)]
        exact e
      have gy : upd (upd H5 dy (.own y)) y (.ins (He.ga K "Reckoning") dy []) y = some (.ins (He.ga K "Reckoning") dy []) := upd_same
      generalize upd (upd H5 dy (.own y)) y (.ins (He.ga K "Reckoning") dy []) = H6 at *
      refine ⟨y, dy, B, rfl, rfl, gy, fun H7 o7 g7 => ⟨rfl, ?_⟩⟩
      have s57 : Same H5 H7 := (Off.trans (Same.off s6) o7).same ny
      have s15 := s1.trans (s2.trans (s3.trans s5))
      refine q y H7 (s15.trans s57) (s15.free ny) ⟨g, lp, lt, hg, ?_, ?_, ?_⟩
      · rw [hB]
        exact ⟨dy, _, g7, .inl rfl⟩
      · rw [hB, hqs]
        exact pr3.same (s5.trans s57)
      · rw [hB, hqs]
        have lt2 : cs.length = qs.length + 1 := by rw [k2, List.length_map, p2]
        refine ⟨cs, s57 _ _ k1, ?_, fun i b w z1 z2 => ?_⟩
        · unfold towersL
          rw [List.length_map, List.length_range, lt2]
        · unfold towersL at z2
          rw [List.getElem?_map] at z2
          obtain ⟨k, hk, rfl⟩ := Option.map_eq_some_iff.mp z2
          have ek : k = i := by
            have := (List.getElem?_eq_some_iff.mp hk).2
            rw [List.getElem_range] at this
            exact this.symm
          subst ek
          exact Same.sqT s57 (k3 k b z1)
end
end U
namespace U
open PySem PySem.Spec PyProof.Rows L2

/-! ### a yard and its reckoning -/
/-- what a yard keeps: nothing yet, or its reckoning -/
def Kept (K : PySem.W.Frag) (H : Hp) (rows : List (List (Option Int))) (rk : V) : Prop := rk = .non ∨ ∃ a, rk = .ref a ∧ RkO K H a rows
/-- a yard as its maker left it, or as its reckoning left it -/
def YdK (K : PySem.W.Frag) (H : Hp) (y : Addr) (rows : List (List (Option Int))) : Prop := Yd K H y rows ∧ PricesOk rows ∧ ∃ dx t rk, H y = some (.ins (He.ga K "Yard") dx [("_rows", .ref t), ("_reckoning", rk)]) ∧ Kept K H rows rk
/-- a yard keeps this reckoning -/
def YdR (K : PySem.W.Frag) (H : Hp) (y a : Addr) : Prop := ∃ dx t, H y = some (.ins (He.ga K "Yard") dx [("_rows", .ref t), ("_reckoning", .ref a)])
def sp_Yard_reckoning (K : PySem.W.Frag) : Sp := sp1 fun x H Q _ => ∃ y rows, x = .ref y ∧ YdK K H y rows ∧ ∀ a H', Off y H H' → YdK K H' y rows → RkO K H' a rows → YdR K H' y a → (YdR K H y a ∨ H a = none) → (∀ a0, YdR K H y a0 → Same H H') → Q (.ref a) H'
def t_Yard_reckoning (K : PySem.W.Frag) (E : XK) : TS := (tSeq (tIfS (tTest (tOp uIs (tFld K (tVar 0) "_reckoning") (tC .non))) (sFld K (tVar 0) (tFn (sp_reckoning_of K) E (tCons (tFld K (tVar 0) "_rows") tNil)) "_reckoning") tNext) (tRet (tFld K (tVar 0) "_reckoning")))
section
variable {K : PySem.W.Frag} (F : KF K) (R : KR K) {vs : List V} {H : Hp} {Q : VK} {E : XK}
local macro_rules | `(tactic| walk_at "w") => `(tactic| try simp only [turnE, lcT, Snoc, tRet, tRetN, tAndV, tOrV, tNotV, tCB, tCons, tVar, tNil, tC, tOp, tSeq, tAsg, gName, gSub, tIfS, tDrop, tFn, tTup, tLst, tNext, tB, tTest, tNot, tAnd, tOr, tIf, tChain, tUn, rU, tFld, tPart, tNoPart, L2.tSl, tBM, tPar, tPar3, tTruth, tDNewK,
  L2.start, List.map_cons, List.map_nil, List.length_cons, List.length_nil, List.replicate_succ, List.replicate_zero, List.append_nil, List.nil_append, List.cons_append, List.singleton_append, Nat.sub_self, Nat.zero_add, Nat.reduceAdd, Nat.reduceSub,
  List.getElem?_cons_zero, List.getElem?_cons_succ, List.set_cons_zero, List.set_cons_succ, Option.some.injEq, exists_eq_left, exists_eq_left', V.int.injEq, V.bl.injEq, V.str.injEq, V.ref.injEq,
  uAdd_int, uAdd_str, uSub_int, uMul_int, uMul_str, uDiv_int, uMod_int, uPow_int, uLt_int, uLe_int, uGt_int, uGe_int, uIs_non, uNis_non, uIs_bl, uNis_bl, sp1, sp2, sp3, sp4, uEq_int, uEq_str, uNe_int, uNe_str, uSl_str, uLen_str, decide_eq_true_eq])
local macro_rules | `(tactic| walk_at "1") => `(tactic| try simp only [turnE, lcT, Snoc, tRet, tRetN, tAndV, tOrV, tNotV, tCB, tCons, tVar, tNil, tC, tOp, tAsg, gName, gSub, tIfS, tDrop, tFn, tTup, tLst, tNext, tB, tTest, tNot, tAnd, tOr, tIf, tChain, tUn, rU, tFld, tPart, tNoPart, L2.tSl, tBM, tPar, tPar3, tTruth, tDNewK,
  L2.start, List.map_cons, List.map_nil, List.length_cons, List.length_nil, List.replicate_succ, List.replicate_zero, List.append_nil, List.nil_append, List.cons_append, List.singleton_append, Nat.sub_self, Nat.zero_add, Nat.reduceAdd, Nat.reduceSub,
  List.getElem?_cons_zero, List.getElem?_cons_succ, List.set_cons_zero, List.set_cons_succ, Option.some.injEq, exists_eq_left, exists_eq_left', V.int.injEq, V.bl.injEq, V.str.injEq, V.ref.injEq,
  uAdd_int, uAdd_str, uSub_int, uMul_int, uMul_str, uDiv_int, uMod_int, uPow_int, uLt_int, uLe_int, uGt_int, uGe_int, uIs_non, uNis_non, uIs_bl, uNis_bl, sp1, sp2, sp3, sp4, uEq_int, uEq_str, uNe_int, uNe_str, uSl_str, uLen_str, decide_eq_true_eq])
local macro_rules | `(tactic| walk_at "s") => `(tactic| ((try dsimp only [turnE]); with_reducible refine seq_ ?_))

theorem RkN0.same {H' : Hp} {a : Addr} {B : Int} {qs : List (List Int)} (e : Same H H') (h : RkN0 K H a B qs) : RkN0 K H' a B qs := by
  obtain ⟨lp, lt, ⟨dx, bk, ha⟩, p1, p2⟩ := h
  exact ⟨lp, lt, ⟨dx, bk, e _ _ ha⟩, p1.same e, p2.same e⟩
theorem Bk.same {H' : Hp} {bk : V} {B : Int} {qs : List (List Int)} (e : Same H H') (h : Bk K H bk B qs) : Bk K H' bk B qs := h.imp id fun ⟨b, z, r⟩ => ⟨b, z, r.same e⟩
theorem RkO.same {H' : Hp} {a : Addr} {rows : List (List (Option Int))} (e : Same H H') (h : RkO K H a rows) : RkO K H' a rows := by
  obtain ⟨g, lp, lt, hg, ⟨dx, bk, ha, kb⟩, p1, p2⟩ := h
  exact ⟨g, lp, lt, hg, ⟨dx, bk, e _ _ ha, kb.same e⟩, p1.same e, p2.same e⟩
theorem PrB.off {H' : Hp} {y l C dx : Addr} {fs : List (Str × V)} {qs : List (List Int)} (e : Off y H H') (hy : H y = some (.ins C dx fs)) (h : PrB K H l qs) : PrB K H' l qs := by
  obtain ⟨bs, h1, h2, h3⟩ := h
  exact ⟨bs, e _ _ (by rintro rfl; rw [hy] at h1; cases h1) h1, h2, fun i b q z1 z2 => e.sqT_ins hy (h3 i b q z1 z2)⟩
theorem RkN0.off {H' : Hp} {y a dx : Addr} {fs : List (Str × V)} {B : Int} {qs : List (List Int)} (ne : He.ga K "Yard" ≠ He.ga K "Reckoning") (e : Off y H H') (hy : H y = some (.ins (He.ga K "Yard") dx fs)) (h : RkN0 K H a B qs) : RkN0 K H' a B qs := by
  obtain ⟨lp, lt, ⟨d2, bk, ha⟩, p1, p2⟩ := h
  refine ⟨lp, lt, ⟨d2, bk, e _ _ ?_ ha⟩, p1.off e hy, p2.off e hy⟩
  rintro rfl
  rw [hy] at ha
  injection ha with ha
  injection ha with h1
  exact ne h1
theorem RkO.off {H' : Hp} {y a dx : Addr} {fs : List (Str × V)} {rows : List (List (Option Int))} (ne : He.ga K "Yard" ≠ He.ga K "Reckoning") (e : Off y H H') (hy : H y = some (.ins (He.ga K "Yard") dx fs)) (h : RkO K H a rows) : RkO K H' a rows := by
  obtain ⟨g, lp, lt, hg, ⟨d2, bk, ha, kb⟩, p1, p2⟩ := h
  refine ⟨g, lp, lt, hg, ⟨d2, bk, e _ _ ?_ ha, kb.imp id fun ⟨b, z, r⟩ => ⟨b, z, r.off ne e hy⟩⟩, p1.off e hy, p2.off e hy⟩
  rintro rfl
  rw [hy] at ha
  injection ha with ha
  injection ha with h1
  exact ne h1
include F R in
theorem read_Yard_reckoning (h : sp_Yard_reckoning K vs H Q E) : t_Yard_reckoning K E { nx := fun _ H' => Q .non H', rt := Q } (start ["self"] vs) H := by
  match vs, h with
  | [_], ⟨y, rows, rfl, ⟨hy, ok, dx, t, rk, gy, hk⟩, q⟩ =>
    unfold t_Yard_reckoning
    walk_at "s"
    walk_at "1"
    refine ⟨y, _, dx, _, rk, rfl, gy, F.cl, F.na2, rfl, ?_⟩
    rcases hk with rfl | ⟨a, rfl, ra⟩
    · rw [if_pos rfl]
      simp only [sFld]
      walk_at "1"
      refine ⟨y, _, dx, _, .ref t, rfl, gy, F.cl, F.na, rfl, ?_⟩
      obtain ⟨dx0, t0, as, ⟨rk0, y1⟩, y2, y3, y4, y5, y6, y7⟩ := id hy
      obtain ⟨rfl, rfl, rfl⟩ : dx = dx0 ∧ t = t0 ∧ V.non = rk0 := by
        rw [gy] at y1
        injection y1 with y1
        injection y1 with _ e1 e2
        simp at e2
        exact ⟨e1, e2.1, e2.2⟩
      refine ⟨t, rows, rfl, ⟨as, y2, y3, y4, y6, fun r m => (y7 r m).1⟩, ok, fun a H1 s1 na ra => ?_⟩
      refine ⟨y, _, dx, _, rfl, s1 _ _ gy, F.cl, F.na2, by show (2 : Nat) < 1000; decide, ?_⟩
      have ep : putF "_reckoning" (.ref a) ([("_rows", .ref t), ("_reckoning", .non)] : List (Str × V)) = ([("_rows", .ref t), ("_reckoning", .ref a)] : List (Str × V)) := rfl
      rw [ep]
      have gy1 := s1 _ _ gy
      have o2 : Off y H1 (upd H1 y (.ins (He.ga K "Yard") dx [("_rows", .ref t), ("_reckoning", .ref a)])) := off_upd
      have g2 : upd H1 y (.ins (He.ga K "Yard") dx [("_rows", .ref t), ("_reckoning", .ref a)]) y = some (.ins (He.ga K "Yard") dx [("_rows", .ref t), ("_reckoning", .ref a)]) := upd_same
      generalize upd H1 y (.ins (He.ga K "Yard") dx [("_rows", .ref t), ("_reckoning", .ref a)]) = H2 at *
      refine ⟨y, _, dx, _, .ref a, rfl, g2, F.cl, F.na2, rfl, ?_⟩
      have ra2 := ra.off R.ne o2 gy1
      refine q a H2 (Off.trans (Same.off s1) o2) ⟨⟨dx, t, as, ⟨_, g2⟩, o2.sqT_ins gy1 (Same.sqT s1 y2), y3, y4, y5, fun i b r z1 z2 => o2.sqT_ins gy1 (Same.sqT s1 (y6 i b r z1 z2)), y7⟩, ok, dx, t, _, g2, .inr ⟨a, rfl, ra2⟩⟩ ra2 ⟨dx, t, g2⟩ (.inr na) fun a0 ⟨d0, t0, z⟩ => by
        rw [gy] at z
        simp at z
    · rw [if_neg (by simp)]
      refine ⟨y, _, dx, _, .ref a, rfl, gy, F.cl, F.na2, rfl, ?_⟩
      exact q a H Off.refl ⟨hy, ok, dx, t, _, gy, .inr ⟨a, rfl, ra⟩⟩ ra ⟨dx, t, gy⟩ (.inl ⟨dx, t, gy⟩) fun _ _ => Same.refl H
end
end U
namespace U
open PySem PySem.Spec PyProof.Rows L2

/-! ### tables and costs from tower to tower -/
/-- prices by two places -/
def prF (r : List (Option Int)) (i j : Nat) : Option Int := (r[colN i j]?).getD none
/-- the least costs from tower to tower of the k smallest crates -/
def towO (rows : List (List (Option Int))) (k : Nat) : Nat → Nat → Option Int := levelO (((rows.reverse.take k).map prF).reverse)
def ways6 : List Str := waysN.map fun w => wd [w.1, w.2]
/-- a dict of the costs for the six ways -/
def wayD (f : Nat → Nat → Option Int) : List (Key × V) := waysN.map fun w => (.inr (wd [w.1, w.2]), pV (f w.1 w.2))
theorem levelQ_stands {rows : List (List (Option Int))} {g : Int} (hg : Great rows g) (h6 : ∀ r ∈ rows, r.length = 6) : ∀ k, k ≤ rows.length → ∀ i j, i < 3 → j < 3 → i ≠ j → Stands (g * 4 ^ rows.length) (mostN g k) (towO rows k i j) (levelQ (rows.reverse.map (rowI (g * 4 ^ rows.length))) k i j) := by
  intro k
  induction k with
  | zero =>
    intro _ i j _ _ _
    exact ⟨rfl, Int.le_refl _, Int.le_refl _⟩
  | succ k ih =>
    intro hk
    have ih := ih (by omega)
    have lt : k < rows.reverse.length := by rw [List.length_reverse]; omega
    have pos : (0 : Int) ≤ g * 4 ^ rows.length := Int.mul_nonneg (Int.le_of_lt hg.1) (Int.pow_nonneg (by decide))
    have eq1 : levelQ (rows.reverse.map (rowI (g * 4 ^ rows.length))) (k + 1) = stepN (fnOf (rowI (g * 4 ^ rows.length) rows.reverse[k])) (levelQ (rows.reverse.map (rowI (g * 4 ^ rows.length))) k) := levelQ_succ (by rw [List.getElem?_map, List.getElem?_eq_getElem lt]; rfl)
    have eq2 : towO rows (k + 1) = stepO (prF rows.reverse[k]) (towO rows k) := by
      unfold towO
      rw [List.take_succ_eq_append_getElem lt, List.map_append, List.reverse_append]
      rfl
    rw [eq1, eq2]
    refine step_stands pos (Int.le_of_lt hg.1) (mostN_bound hg.1 hk) (fun i j hi hj n => ?_) ih
    have mr : rows.reverse[k] ∈ rows := List.mem_reverse.mp (List.getElem_mem lt)
    generalize rows.reverse[k] = r at *
    have l6 := h6 r mr
    have c6 : colN i j < r.length := by
      rw [l6]
      unfold colN
      split <;> omega
    unfold prF fnOf rowI
    rw [List.getElem?_map, List.getElem?_eq_getElem c6]
    have mo : r[colN i j] ∈ r := List.getElem_mem c6
    generalize r[colN i j] = o at *
    cases o with
    | none => exact Int.le_refl _
    | some v =>
      have mp : v ∈ priced rows := List.mem_flatMap.mpr ⟨r, mr, List.mem_filterMap.mpr ⟨some v, mo, rfl⟩⟩
      have := hg.2.2 v mp
      exact ⟨rfl, Int.le_of_lt this.1, this.2⟩
/-- what is told of a level's numbers -/
theorem told_level {rows : List (List (Option Int))} {g : Int} (hg : Great rows g) (h6 : ∀ r ∈ rows, r.length = 6) {k : Nat} (hk : k ≤ rows.length) : namedK (g * 4 ^ rows.length) ways6 (six (levelQ (rows.reverse.map (rowI (g * 4 ^ rows.length))) k)) = wayD (towO rows k) := by
  have st := levelQ_stands hg h6 k hk
  have told : ∀ i j, i < 3 → j < 3 → i ≠ j → toldV (g * 4 ^ rows.length) (levelQ (rows.reverse.map (rowI (g * 4 ^ rows.length))) k i j) = towO rows k i j := fun i j hi hj n => (st i j hi hj n).told (mostN_bound hg.1 hk)
  generalize levelQ (rows.reverse.map (rowI (g * 4 ^ rows.length))) k = L at *
  generalize towO rows k = T at *
  unfold namedK ways6 wayD six waysN
  simp only [List.map_cons, List.map_nil, List.zip_cons_cons, List.zip_nil_left]
  rw [told 0 1 (by decide) (by decide) (by decide), told 0 2 (by decide) (by decide) (by decide), told 1 0 (by decide) (by decide) (by decide), told 1 2 (by decide) (by decide) (by decide), told 2 0 (by decide) (by decide) (by decide), told 2 1 (by decide) (by decide) (by decide)]
end U
namespace U
open PySem PySem.Spec PyProof.Rows L2

/-- what a look at a yard's costs leaves as it was -/
structure Mild (K : PySem.W.Frag) (p : Addr) (H H' : Hp) : Prop where
  fl : ∀ b o, (∀ C dx fs, o ≠ .ins C dx fs) → H b = some o → H' b = some o
  bs : ∀ H0, Same H0 H → H0 p = none → (∀ a, YdR K H p a → H0 a = none) → Same H0 H' ∧ ∀ a, YdR K H' p a → H0 a = none
  sm : ∀ a, YdR K H p a → Same H H'
theorem YdR.same {K : PySem.W.Frag} {p a : Addr} {H H' : Hp} (h : YdR K H p a) (e : Same H H') : YdR K H' p a := by
  obtain ⟨dx, t, z⟩ := h
  exact ⟨dx, t, e _ _ z⟩
theorem Mild.trans {K : PySem.W.Frag} {p : Addr} {H H' H2 : Hp} (h : Mild K p H H') (g : Mild K p H' H2) : Mild K p H H2 where
  fl := fun b o n e => g.fl b o n (h.fl b o n e)
  bs := fun H0 s n r => by
    obtain ⟨s1, r1⟩ := h.bs H0 s n r
    exact g.bs H0 s1 n r1
  sm := fun a r => (h.sm a r).trans (g.sm a (r.same (h.sm a r)))
theorem Mild.of_same {K : PySem.W.Frag} {p : Addr} {H H' : Hp} {o : HO} (hp : H p = some o) (e : Same H H') : Mild K p H H' where
  fl := fun b o _ z => e b o z
  bs := fun H0 s n r => ⟨s.trans e, fun a ⟨dx, t, z⟩ => r a ⟨dx, t, by
    have := e p o hp
    rw [this] at z
    rw [hp]
    exact z⟩⟩
  sm := fun _ _ => e
/-- the yard gets its reckoning -/
theorem mild_reck {K : PySem.W.Frag} {p a : Addr} {H H' : Hp} {C dx : Addr} {fs : List (Str × V)} (hp : H p = some (.ins C dx fs)) (o : Off p H H') (yr : YdR K H' p a) (old : YdR K H p a ∨ H a = none) (sm : ∀ a0, YdR K H p a0 → Same H H') : Mild K p H H' := by
  refine ⟨fun b u n e => o b u (fun z => ?_) e, fun H0 s n r => ⟨fun b u e => o b u (fun z => by rw [z, n] at e; cases e) (s b u e), fun b ⟨d2, t2, z⟩ => ?_⟩, sm⟩
  · rw [z, hp] at e
    injection e with e
    exact n _ _ _ e.symm
  · obtain ⟨d1, t1, z1⟩ := yr
    have : b = a := by
      rw [z1] at z
      simp at z
      exact z.2.2.symm
    subst this
    rcases old with h | h
    · exact r b h
    · cases e : H0 b with
      | none => rfl
      | some u => rw [s b u e] at h; cases h
/-! ### refusals -/
def BadY (K : PySem.W.Frag) (H : Hp) (y : V) (E : XK) : Prop := ∃ a, Is K H y a ∧ (a ≠ .yard ∧ Rz K "InvalidYard" "value" y H E)
theorem BadY.or {K : PySem.W.Frag} {H : Hp} {y : V} {E : XK} {k : List (List (Option Int)) → Prop} (h : BadY K H y E) : YardOr K H y E k := by
  obtain ⟨a, h1, h2, h3⟩ := h
  exact ⟨a, h1, fun _ => h3, fun z => (h2 z).elim⟩
theorem BadY.chk {K : PySem.W.Frag} {H : Hp} {y : V} {E : XK} {Q : VK} (h : BadY K H y E) : sp_check_yard K [y] H Q E := by
  obtain ⟨a, h1, h2, h3⟩ := h
  exact ⟨a, h1, fun z => (h2 z).elim, fun _ => h3⟩
def BadW (K : PySem.W.Frag) (H : Hp) (x : V) (E : XK) : Prop := ∃ a, Is K H x a ∧ (isWy x = false ∧ Rz K "InvalidWay" "value" x H E)
theorem BadW.chk {K : PySem.W.Frag} {H : Hp} {y : V} {E : XK} {Q : VK} (h : BadW K H y E) : sp_check_way K [y] H Q E := by
  obtain ⟨a, h1, h2, h3⟩ := h
  exact ⟨a, h1, fun z => by rw [h2] at z; (cases z), fun _ => h3⟩
end U
namespace U
open PySem PySem.Spec PyProof.Rows L2

/-- a list of new objects of any kind -/
theorem lc_freshO {J : It} {G : Hp → Prop} {xs : List V} (P : Plain J xs G) (f : Nat → HO) {te : TE} {j : Nat} {σ : L2.St} {H : Hp} {D : Addr} {Qd : Hp → Prop} (hD : H D = none) (hl : xs.length ≤ 1000) (hG : ∀ H', Same H H' → G H')
    (hs : ∀ i x H2 (Q : VK), xs[i]? = some x → Same H H2 → (∀ l H3, H2 l = none → Same H2 H3 → H3 l = some (f i) → Q (.ref l) H3) → te (σ.set j (some x)) H2 Q)
    (hd : ∀ (H2 : Hp) (ls : List Addr), Same H H2 → ls.length = xs.length → H2 D = some (.lst (ls.map V.ref)) → (∀ (i : Nat) (l : Addr), ls[i]? = some l → H2 l = some (f i)) → ls.Nodup → D ∉ ls → (∀ l ∈ ls, H l = none) → Qd H2) : LcB J (gName j) tYes te [j] σ H D Qd := by
  refine lc_plain P (fun i H' => Same H H' ∧ ∃ ls : List Addr, H' D = some (.lst (ls.map V.ref)) ∧ ls.length = i ∧ D ∉ ls ∧ (∀ (j : Nat) (a : Addr), ls[j]? = some a → H' a = some (f j)) ∧ ls.Nodup ∧ ∀ l ∈ ls, H l = none)
    ⟨same_new hD, [], upd_same, rfl, (fun m => nomatch m), (fun j a z => nomatch z), .nil, fun l m => nomatch m⟩ (fun i H' z => hG _ z.1) ?_ (fun H2 ⟨s2, ls, gD, hl, nD, at_, nd, fr⟩ => hd H2 ls s2 hl gD at_ nd nD fr)
  rintro i x H2 hx ⟨s2, ls, gD, hll, nD, at_, nd, fr⟩
  have hi : i < xs.length := (List.getElem?_eq_some_iff.mp hx).1
  show wipe _ [j] = wipe σ [j] ∧ _
  refine ⟨by simp only [wipe, List.set_set], ?_⟩
  show te ((σ.set j none).set j (some x)) H2 _
  rw [List.set_set]
  refine hs i x H2 _ hx s2 fun l H3 nl s3 gl => ?_
  have lD : l ≠ D := by rintro rfl; rw [gD] at nl; cases nl
  have lls : l ∉ ls := fun m => by
    obtain ⟨k, lt, e⟩ := List.mem_iff_getElem.mp m
    have := at_ k l (by rw [← e]; exact List.getElem?_eq_getElem lt)
    rw [this] at nl
    cases nl
  refine ⟨_, s3 _ _ gD, ?_, (Off.trans (Same.off (s2.trans s3)) off_upd).same hD, ls ++ [l], by rw [upd_same]; simp, by simp [hll], ?_, ?_, ?_, ?_⟩
  · rw [List.length_map, hll]
    exact Nat.lt_of_lt_of_le (show i < 1001 by omega) (by decide)
  · rintro m
    rcases List.mem_append.mp m with m | m
    · exact nD m
    · exact lD (List.mem_singleton.mp m).symm
  · rintro k y z1
    have yD : y ≠ D := by
      rintro rfl
      rcases List.mem_append.mp (List.mem_of_getElem? z1) with m | m
      · exact nD m
      · exact lD (List.mem_singleton.mp m).symm
    rw [upd_ne yD]
    by_cases e : k < ls.length
    · rw [List.getElem?_append_left e] at z1
      exact s3 _ _ (at_ k y z1)
    · have e2 : k = ls.length := by
        have := (List.getElem?_eq_some_iff.mp z1).1
        simp at this
        omega
      subst e2
      rw [List.getElem?_append_right (Nat.le_refl _), Nat.sub_self] at z1
      cases z1
      rw [← hll] at gl
      exact gl
  · rw [List.nodup_append]
    refine ⟨nd, by simp, fun x hx y hy => ?_⟩
    rw [List.mem_singleton.mp hy]
    rintro rfl
    exact lls hx
  · intro y m
    rcases List.mem_append.mp m with m | m
    · exact fr y m
    · rw [List.mem_singleton.mp m]
      cases e : H l with
      | none => rfl
      | some o => rw [s2 _ _ e] at nl; cases nl
/-- new dicts of the levels, a list of them -/
def Tables (H0 H : Hp) (l : Addr) (rows : List (List (Option Int))) : Prop := ∃ ls : List Addr, H l = some (.lst (ls.map V.ref)) ∧ ls.length = rows.length + 1 ∧ (∀ (k : Nat) (d : Addr), ls[k]? = some d → H d = some (.dK (wayD (towO rows k)))) ∧ ls.Nodup ∧ l ∉ ls ∧ H0 l = none ∧ ∀ d ∈ ls, H0 d = none
def sp_tables (K : PySem.W.Frag) : Sp := sp1 fun x H Q E => BadY K H x E ∨ ∃ y rows, x = .ref y ∧ YdK K H y rows ∧ ∀ l H1 H', Mild K y H H1 → YdK K H1 y rows → (∃ a, YdR K H1 y a) → Same H1 H' → Tables H1 H' l rows → Q (.ref l) H'
def sp_tower_cost (K : PySem.W.Frag) : Sp := sp2 fun x z H Q E => BadY K H x E ∨ ∃ y rows, x = .ref y ∧ YdK K H y rows ∧ BadW K H z E
def t_tables (K : PySem.W.Frag) (E : XK) : TS := (tSeq (tDrop (tFn (sp_check_yard K) E (tCons (tVar 0) tNil))) (tSeq (tAsg (tMeth (He.ga K "Yard") "reckoning" (sp_Yard_reckoning K) [] E (tVar 0) tNil) (gName 1)) (tRet (tLc (iSeq K (tFld K (tVar 1) "towers")) (gName 2) tYes (tMeth (He.ga K "Reckoning") "named" (sp_Reckoning_named K) [] E0 (tVar 1) (tCons (tC (.ref (He.ga K "WAYS"))) (tCons (tVar 2) tNil))) [2]))))
def t_tower_cost (K : PySem.W.Frag) (E : XK) : TS := (tSeq (tDrop (tFn (sp_check_yard K) E (tCons (tVar 0) tNil))) (tSeq (tDrop (tFn (sp_check_way K) E (tCons (tVar 1) tNil))) (tSeq (tAsg (tMeth (He.ga K "Yard") "reckoning" (sp_Yard_reckoning K) [] E (tVar 0) tNil) (gName 2)) (tRet (tMeth (He.ga K "Reckoning") "told" (sp_Reckoning_told K) [] E (tVar 2) (tCons (tOp (uIx K) (tOp (uIx K) (tFld K (tVar 2) "towers") (tUn (rU fun i => .int (-i)) (tC (.int 1)))) (tOp (rCol K) (tC (.ref (He.ga K "COLUMNS"))) (tVar 1))) tNil))))))
section
variable {K : PySem.W.Frag} (F : KF K) (R : KR K) {vs : List V} {H : Hp} {Q : VK} {E : XK}
local macro_rules | `(tactic| walk_at "w") => `(tactic| try simp only [turnE, lcT, Snoc, tRet, tRetN, tAndV, tOrV, tNotV, tCB, tCons, tVar, tNil, tC, tOp, tSeq, tAsg, gName, gSub, tIfS, tDrop, tFn, tTup, tLst, tNext, tB, tTest, tNot, tAnd, tOr, tIf, tChain, tUn, rU, tFld, tPart, tNoPart, L2.tSl, tBM, tPar, tPar3, tTruth, tDNewK,
  L2.start, List.map_cons, List.map_nil, List.length_cons, List.length_nil, List.replicate_succ, List.replicate_zero, List.append_nil, List.nil_append, List.cons_append, List.singleton_append, Nat.sub_self, Nat.zero_add, Nat.reduceAdd, Nat.reduceSub,
  List.getElem?_cons_zero, List.getElem?_cons_succ, List.set_cons_zero, List.set_cons_succ, Option.some.injEq, exists_eq_left, exists_eq_left', V.int.injEq, V.bl.injEq, V.str.injEq, V.ref.injEq,
  uAdd_int, uAdd_str, uSub_int, uMul_int, uMul_str, uDiv_int, uMod_int, uPow_int, uLt_int, uLe_int, uGt_int, uGe_int, uIs_non, uNis_non, uIs_bl, uNis_bl, sp1, sp2, sp3, sp4, uEq_int, uEq_str, uNe_int, uNe_str, uSl_str, uLen_str, decide_eq_true_eq])
local macro_rules | `(tactic| walk_at "1") => `(tactic| try simp only [turnE, lcT, Snoc, tRet, tRetN, tAndV, tOrV, tNotV, tCB, tCons, tVar, tNil, tC, tOp, tAsg, gName, gSub, tIfS, tDrop, tFn, tTup, tLst, tNext, tB, tTest, tNot, tAnd, tOr, tIf, tChain, tUn, rU, tFld, tPart, tNoPart, L2.tSl, tBM, tPar, tPar3, tTruth, tDNewK,
  L2.start, List.map_cons, List.map_nil, List.length_cons, List.length_nil, List.replicate_succ, List.replicate_zero, List.append_nil, List.nil_append, List.cons_append, List.singleton_append, Nat.sub_self, Nat.zero_add, Nat.reduceAdd, Nat.reduceSub,
  List.getElem?_cons_zero, List.getElem?_cons_succ, List.set_cons_zero, List.set_cons_succ, Option.some.injEq, exists_eq_left, exists_eq_left', V.int.injEq, V.bl.injEq, V.str.injEq, V.ref.injEq,
  uAdd_int, uAdd_str, uSub_int, uMul_int, uMul_str, uDiv_int, uMod_int, uPow_int, uLt_int, uLe_int, uGt_int, uGe_int, uIs_non, uNis_non, uIs_bl, uNis_bl, sp1, sp2, sp3, sp4, uEq_int, uEq_str, uNe_int, uNe_str, uSl_str, uLen_str, decide_eq_true_eq])
local macro_rules | `(tactic| walk_at "s") => `(tactic| ((try dsimp only [turnE]); with_reducible refine seq_ ?_))

theorem len6_of {y : Addr} {rows : List (List (Option Int))} (h : Yd K H y rows) : ∀ r ∈ rows, r.length = 6 := by
  obtain ⟨dx, t, as, _, _, _, _, _, _, y7⟩ := h
  exact fun r m => (y7 r m).1
theorem YdK.same {H' : Hp} {y : Addr} {rows : List (List (Option Int))} (e : Same H H') (h : YdK K H y rows) : YdK K H' y rows := by
  obtain ⟨h1, h2, dx, t, rk, gy, hk⟩ := h
  refine ⟨h1.same e, h2, dx, t, rk, e _ _ gy, ?_⟩
  rcases hk with rfl | ⟨a, rfl, ra⟩
  · exact .inl rfl
  · exact .inr ⟨a, rfl, ra.same e⟩
include F R in
theorem read_tables (h : sp_tables K vs H Q E) : t_tables K E { nx := fun _ H' => Q .non H', rt := Q } (start ["yard", "reckoning", "towers"] vs) H := by
  match vs, h with
  | [_], .inl bad =>
    unfold t_tables
    walk_at "s"
    walk_at "1"
    exact bad.chk
  | [_], .inr ⟨y, rows, rfl, hy, q⟩ =>
    obtain ⟨h1, ok, dx, t, rk, gy, hk⟩ := id hy
    have h6 := len6_of h1
    have h60 : rows.length ≤ 60 := by
      obtain ⟨_, _, _, _, _, _, y4, _⟩ := h1
      exact y4
    unfold t_tables
    walk_at "s"
    walk_at "1"
    refine ⟨.yard, is_yard F gy, fun _ => ?_, fun z => (z rfl).elim⟩
    walk_at "s"
    simp only [tMeth]
    walk_at "1"
    refine ⟨.ref y, rfl, y, dx, _, rfl, gy, rfl, y, rows, rfl, hy, fun a H1 o1 hy1 ra yr old sm => ?_⟩
    obtain ⟨g, lp, lt, hg, ⟨da, bk, ga, kb⟩, p1, cs, c1, c2, c3⟩ := id ra
    refine tLc_inN ?_
    walk_at "1"
    refine ⟨a, _, da, _, .ref lt, rfl, ga, R.cl, R.towers, rfl, lt, rfl, ⟨_, .inl (.inl c1)⟩, fun D hD => ?_⟩
    refine lc_freshO (plain_L (K := K) (a := lt) (xs := cs.map V.ref)) (fun k => .dK (wayD (towO rows k))) hD ?_ (fun H' s => .inl (.inl (s _ _ c1))) ?_ ?_
    · rw [List.length_map, c2]
      unfold towersL
      rw [List.length_map, List.length_range, List.length_map, List.length_reverse]
      omega
    · intro i x H2 Q2 hx s2 go
      rw [List.getElem?_map] at hx
      obtain ⟨c, hc, rfl⟩ := Option.map_eq_some_iff.mp hx
      have li : i < rows.length + 1 := by
        have := (List.getElem?_eq_some_iff.mp hc).1
        rw [c2] at this
        unfold towersL at this
        rw [List.length_map, List.length_range, List.length_map, List.length_reverse] at this
        exact this
      have tq := Same.sqT s2 (c3 i c (six (levelQ (rows.reverse.map (rowI (g * 4 ^ rows.length))) i)) hc (by
        unfold towersL
        rw [List.getElem?_map, List.getElem?_range (by rw [List.length_map, List.length_reverse]; exact li)]
        rfl))
      have wy : SqT K H2 (He.ga K "WAYS") (ways6.map V.str) := F.ways H2
      refine ⟨.ref a, rfl, a, da, _, rfl, s2 _ _ ga, rfl, .ref c, rfl, a, _, _, _, _, c, ways6, _, rfl, ⟨da, bk, s2 _ _ ga⟩, rfl, rfl, wy, tq, by decide +kernel, by decide +kernel, rfl, fun r H3 s3 nr gr => ?_⟩
      rw [told_level hg h6 (by omega)] at gr
      exact go r H3 nr s3 gr
    · intro H2 ls s2 hl gD at_ nd nD fr
      refine q D H1 H2 (mild_reck gy o1 yr old sm) hy1 ⟨a, yr⟩ s2 ⟨ls, gD, ?_, at_, nd, nD, hD, fr⟩
      rw [hl, List.length_map, c2]
      unfold towersL
      rw [List.length_map, List.length_range, List.length_map, List.length_reverse]
theorem is_way {i j : Nat} (hi : i < 3) (hj : j < 3) (n : i ≠ j) : isWy (.str (wd [i, j])) = true := by
  rcases (show i = 0 ∧ j = 1 ∨ i = 0 ∧ j = 2 ∨ i = 1 ∧ j = 0 ∨ i = 1 ∧ j = 2 ∨ i = 2 ∧ j = 0 ∨ i = 2 ∧ j = 1 by omega) with ⟨rfl, rfl⟩ | ⟨rfl, rfl⟩ | ⟨rfl, rfl⟩ | ⟨rfl, rfl⟩ | ⟨rfl, rfl⟩ | ⟨rfl, rfl⟩ <;> decide +kernel
include F in
theorem read_tower_cost (h : sp_tower_cost K vs H Q E) : t_tower_cost K E { nx := fun _ H' => Q .non H', rt := Q } (start ["yard", "way", "reckoning"] vs) H := by
  match vs, h with
  | [_, _], .inl bad =>
    unfold t_tower_cost
    walk_at "s"
    walk_at "1"
    exact bad.chk
  | [_, _], .inr ⟨y, rows, rfl, hy, bad⟩ =>
    obtain ⟨_, _, dx, t, rk, gy, _⟩ := id hy
    unfold t_tower_cost
    walk_at "s"
    walk_at "1"
    refine ⟨.yard, is_yard F gy, fun _ => ?_, fun z => (z rfl).elim⟩
    walk_at "s"
    walk_at "1"
    exact bad.chk
end
end U
namespace U
open PySem PySem.Spec PyProof.Rows L2

/-! ### the ways on which a crate moves just once -/
def strN (f D : Nat → Nat → Int) (B : Int) (w : Nat × Nat) : Bool := decide (lineS f D w.1 w.2 < B) && decide (lineS f D w.1 w.2 ≤ lineT2 f D w.1 w.2)
def wayV (w : Nat × Nat) : V := .str (wd [w.1, w.2])
def sp__straight_ways (K : PySem.W.Frag) : Sp := sp3 fun x y z H Q _ => ∃ p b f D B, x = .ref p ∧ y = .ref b ∧ z = .int B ∧ SqT K H p (iV (six f)) ∧ SqT K H b (iV (six D)) ∧ ∀ l H', Same H H' → H l = none → H' l = some (.lst ((waysN.filter (strN f D B)).map wayV)) → Q (.ref l) H'
def t__straight_ways (K : PySem.W.Frag) (E : XK) : TS := (tSeq (tAsg (tFn (sp_from_each_tower K) E (tCons (tVar 1) tNil)) (gName 3)) (tSeq (tAsg (tFn (sp_from_each_tower K) E (tCons (tFn (sp_turned K) E (tCons (tVar 1) tNil)) tNil)) (gName 4)) (tSeq (tAsg (tLst tNil) (gName 5)) (tSeq (tFor (iSeq K (tC (.ref (He.ga K "WAYS")))) (gName 6) (tSeq (tAsg (tFn (sp_both_lines K) E (tCons (tVar 6) (tCons (tVar 0) (tCons (tVar 1) (tCons (tDGet (tVar 3) (tOp (uIx K) (tVar 6) (tC (.int 0)))) (tCons (tDGet (tVar 4) (tOp (uIx K) (tVar 6) (tC (.int 1)))) tNil)))))) (gTup K 2 (gCons (gName 7) (gCons (gName 8) gNil)))) (tIfS (tAnd (tTest (tOp uLt (tVar 7) (tVar 2))) (tTest (tOp uLe (tVar 7) (tVar 8)))) (tDrop (tBM K "list" rAppend (tVar 5) (tCons (tVar 6) tNil))) tNext))) (tRet (tVar 5))))))
section
variable {K : PySem.W.Frag} (F : KF K) {vs : List V} {H : Hp} {Q : VK} {E : XK}
local macro_rules | `(tactic| walk_at "w") => `(tactic| try simp only [turnE, lcT, Snoc, tRet, tRetN, tAndV, tOrV, tNotV, tCB, tCons, tVar, tNil, tC, tOp, tSeq, tAsg, gName, gSub, tIfS, tDrop, tFn, tTup, tLst, tNext, tB, tTest, tNot, tAnd, tOr, tIf, tChain, tUn, rU, tFld, tPart, tNoPart, L2.tSl, tBM, tPar, tPar3, tTruth, tDNewK,
  L2.start, List.map_cons, List.map_nil, List.length_cons, List.length_nil, List.replicate_succ, List.replicate_zero, List.append_nil, List.nil_append, List.cons_append, List.singleton_append, Nat.sub_self, Nat.zero_add, Nat.reduceAdd, Nat.reduceSub,
  List.getElem?_cons_zero, List.getElem?_cons_succ, List.set_cons_zero, List.set_cons_succ, Option.some.injEq, exists_eq_left, exists_eq_left', V.int.injEq, V.bl.injEq, V.str.injEq, V.ref.injEq,
  uAdd_int, uAdd_str, uSub_int, uMul_int, uMul_str, uDiv_int, uMod_int, uPow_int, uLt_int, uLe_int, uGt_int, uGe_int, uIs_non, uNis_non, uIs_bl, uNis_bl, sp1, sp2, sp3, sp4, uEq_int, uEq_str, uNe_int, uNe_str, uSl_str, uLen_str, decide_eq_true_eq])
local macro_rules | `(tactic| walk_at "1") => `(tactic| try simp only [turnE, lcT, Snoc, tRet, tRetN, tAndV, tOrV, tNotV, tCB, tCons, tVar, tNil, tC, tOp, tAsg, gName, gSub, tIfS, tDrop, tFn, tTup, tLst, tNext, tB, tTest, tNot, tAnd, tOr, tIf, tChain, tUn, rU, tFld, tPart, tNoPart, L2.tSl, tBM, tPar, tPar3, tTruth, tDNewK,
  L2.start, List.map_cons, List.map_nil, List.length_cons, List.length_nil, List.replicate_succ, List.replicate_zero, List.append_nil, List.nil_append, List.cons_append, List.singleton_append, Nat.sub_self, Nat.zero_add, Nat.reduceAdd, Nat.reduceSub,
  List.getElem?_cons_zero, List.getElem?_cons_succ, List.set_cons_zero, List.set_cons_succ, Option.some.injEq, exists_eq_left, exists_eq_left', V.int.injEq, V.bl.injEq, V.str.injEq, V.ref.injEq,
  uAdd_int, uAdd_str, uSub_int, uMul_int, uMul_str, uDiv_int, uMod_int, uPow_int, uLt_int, uLe_int, uGt_int, uGe_int, uIs_non, uNis_non, uIs_bl, uNis_bl, sp1, sp2, sp3, sp4, uEq_int, uEq_str, uNe_int, uNe_str, uSl_str, uLen_str, decide_eq_true_eq])
local macro_rules | `(tactic| walk_at "s") => `(tactic| ((try dsimp only [turnE]); with_reducible refine seq_ ?_))

theorem tFor_seqT {t : TE} {g : TG} {tb : TS} {D : Ends} {σ : L2.St} (h : t σ H fun x H1 => ∃ a, x = .ref a ∧ (∃ xs, SqT K H1 a xs) ∧ tFor (fun _ H' R => R (Itt K a) H') g tb D σ H1) : tFor (iSeq K t) g tb D σ H := .inr h
theorem each_at {r : Addr} {D : Nat → Nat → Int} {i : Nat} (h : Each H r D) (hi : i < 3) : ∃ q, DGet H r (.str (wd [i])) (some (.ref q)) ∧ H q = some (.tup (iV (three (dd D i)))) := by
  obtain ⟨q0, q1, q2, h1, h2, h3, h4⟩ := h
  match i, hi with
  | 0, _ => exact ⟨q0, DGet.k (k := .inr "a") h1, h2⟩
  | 1, _ => exact ⟨q1, DGet.k (k := .inr "b") h1, h3⟩
  | 2, _ => exact ⟨q2, DGet.k (k := .inr "c") h1, h4⟩
theorem Each.same {H' : Hp} {r : Addr} {D : Nat → Nat → Int} (e : Same H H') (h : Each H r D) : Each H' r D := by
  obtain ⟨q0, q1, q2, h1, h2, h3, h4⟩ := h
  exact ⟨q0, q1, q2, e _ _ h1, e _ _ h2, e _ _ h3, e _ _ h4⟩
theorem line_one {f D : Nat → Nat → Int} {i j : Nat} (hi : i < 3) (hj : j < 3) (n : i ≠ j) : bl1 f (dd D i) (dd (fun a b => D b a) j) i j = lineS f D i j := by
  unfold bl1 lineS dd
  repeat rw [if_neg (by omega)]
theorem line_two {f D : Nat → Nat → Int} {i j : Nat} (hi : i < 3) (hj : j < 3) (n : i ≠ j) : bl2 f D (dd D i) (dd (fun a b => D b a) j) i j = lineT2 f D i j := by
  unfold bl2 lineT2 dd
  repeat rw [if_neg (by omega)]
include F in
theorem read__straight_ways (h : sp__straight_ways K vs H Q E) : t__straight_ways K E { nx := fun _ H' => Q .non H', rt := Q } (start ["prices", "towers", "bound", "to_towers", "from_towers", "ways", "way", "straight", "turning"] vs) H := by
  match vs, h with
  | [_, _, _], ⟨p, b, f, D, B, rfl, rfl, rfl, hp, hb, q⟩ =>
    unfold t__straight_ways
    walk_at "s"
    walk_at "1"
    refine ⟨b, D, rfl, hb, fun r1 H1 s1 n1 e1 => ?_⟩
    walk_at "s"
    walk_at "1"
    refine ⟨b, D, rfl, Same.sqT s1 hb, fun r0 H2 s2 n2 g2 => ?_⟩
    refine ⟨r0, fun a b => D b a, rfl, .inl (.inl g2), fun r2 H3 s3 n3 e3 => ?_⟩
    walk_at "s"
    walk_at "1"
    refine ⟨by decide, fun l nl => ?_⟩
    have s13 := s1.trans (s2.trans s3)
    have s4 : Same H3 (upd H3 l (.lst [])) := same_new nl
    have g4 : upd H3 l (.lst []) l = some (.lst []) := upd_same
    generalize upd H3 l (.lst []) = H4 at *
    walk_at "s"
    refine tFor_seqT ?_
    refine ⟨He.ga K "WAYS", rfl, ⟨_, F.ways H4⟩, ?_⟩
    have fT : Same H H4 := s13.trans s4
    have e14 : Each H4 r1 D := e1.same (s2.trans (s3.trans s4))
    have e34 : Each H4 r2 fun a b => D b a := e3.same s4
    refine for_plain (plain_T (K := K) (a := He.ga K "WAYS") (xs := waysN.map wayV)) (fun R r => r)
      (fun k τ H' => (∃ o6 o7 o8, τ = [some (.ref p), some (.ref b), some (.int B), some (.ref r1), some (.ref r2), some (.ref l), o6, o7, o8]) ∧ Same H3 H' ∧ H' l = some (.lst (((waysN.take k).filter (strN f D B)).map wayV)))
      ⟨⟨_, _, _, rfl⟩, s4, g4⟩ (fun k τ H' z => F.ways H') ?_ ?_
    · rintro k x τ H5 hx ⟨⟨o6, o7, o8, rfl⟩, s5, g5⟩
      rw [List.getElem?_map] at hx
      obtain ⟨w, hw, rfl⟩ := Option.map_eq_some_iff.mp hx
      obtain ⟨w1, w2, w3⟩ := waysN_ok w (List.mem_of_getElem? hw)
      have et : ((waysN.take (k + 1)).filter (strN f D B)) = ((waysN.take k).filter (strN f D B)) ++ [w].filter (strN f D B) := by
        rw [List.take_succ_eq_append_getElem (List.getElem?_eq_some_iff.mp hw).1, List.filter_append, (List.getElem?_eq_some_iff.mp hw).2]
      obtain ⟨i, j⟩ := w
      dsimp only at w1 w2 w3
      simp only [gName, List.set_cons_zero, List.set_cons_succ]
      walk_at "s"
      walk_at "1"
      obtain ⟨q1, d1, m1⟩ := each_at (e1.same (s2.trans (s3.trans s5))) w1
      obtain ⟨q2, d2, m2⟩ := each_at (e3.same s5) w2
      have ix0 : ∀ {Q2 : VK} {H6 : Hp}, Q2 (.str (wd [i])) H6 → uIx K (wayV (i, j)) (.int 0) H6 Q2 := fun z => ⟨by show (wd [i, j]).length ≤ sizeLine; rw [wd_length]; exact (by decide : (2 : Nat) ≤ sizeLine), _, rfl, z⟩
      have ix1 : ∀ {Q2 : VK} {H6 : Hp}, Q2 (.str (wd [j])) H6 → uIx K (wayV (i, j)) (.int 1) H6 Q2 := fun z => ⟨by show (wd [i, j]).length ≤ sizeLine; rw [wd_length]; exact (by decide : (2 : Nat) ≤ sizeLine), _, rfl, z⟩
      simp only [tDGet]
      walk_at "1"
      refine ix0 ?_
      refine ⟨r1, .ref q1, rfl, d1, ?_⟩
      walk_at "1"
      refine ix1 ?_
      refine ⟨r2, .ref q2, rfl, d2, ?_⟩
      refine ⟨i, j, p, b, q1, q2, f, D, dd D i, dd (fun a b => D b a) j, rfl, w1, w2, w3, rfl, rfl, rfl, rfl, Same.sqT (s13.trans s5) hp, Same.sqT (s13.trans s5) hb, .inl (.inl m1), .inl (.inl m2), fun r H6 s6 n6 g6 => ?_⟩
      rw [line_one w1 w2 w3, line_two w1 w2 w3] at g6
      refine pair_in g6 ?_
      simp only [List.set_cons_zero, List.set_cons_succ]
      walk_at "1"
      have g56 := s6 _ _ g5
      have nope : strN f D B (i, j) = false → (∃ o6 o7 o8, [some (V.ref p), some (V.ref b), some (V.int B), some (V.ref r1), some (V.ref r2), some (V.ref l), some (wayV (i, j)), some (V.int (lineS f D i j)), some (V.int (lineT2 f D i j))] = [some (V.ref p), some (V.ref b), some (V.int B), some (V.ref r1), some (V.ref r2), some (V.ref l), o6, o7, o8]) ∧ Same H3 H6 ∧ H6 l = some (.lst (((waysN.take (k + 1)).filter (strN f D B)).map wayV)) := fun z => by
        refine ⟨⟨_, _, _, rfl⟩, s5.trans s6, ?_⟩
        rw [et, List.filter_cons_of_neg (by rw [z]; decide), List.filter_nil, List.append_nil]
        exact g56
      by_cases c1 : lineS f D i j < B
      · rw [if_pos c1]
        by_cases c2 : lineS f D i j ≤ lineT2 f D i j
        · rw [if_pos c2]
          have z : strN f D B (i, j) = true := by
            unfold strN
            rw [decide_eq_true c1, decide_eq_true c2]
            rfl
          refine ⟨Or.inl ⟨rfl, _, .inl (.inl g56)⟩, l, _, _, rfl, rfl, g56, ?_, ⟨_, _, _, rfl⟩, ?_, ?_⟩
          · have := List.length_filter_le (strN f D B) (waysN.take k)
            rw [List.length_take] at this
            simp only [List.length_map, sizeLine_eq]
            have : waysN.length = 6 := rfl
            omega
          · exact (Off.trans (Same.off (s5.trans s6)) off_upd).same nl
          · rw [upd_same, et, List.filter_cons_of_pos z, List.filter_nil, List.map_append]
            rfl
        · rw [if_neg c2]
          exact nope (by unfold strN; rw [decide_eq_false c2, Bool.and_false])
      · rw [if_neg c1, if_neg (by decide)]
        exact nope (by unfold strN; rw [decide_eq_false c1, Bool.false_and])
    · rintro τ H5 ⟨⟨o6, o7, o8, rfl⟩, s5, g5⟩
      exact ⟨_, rfl, q l H5 (s13.trans s5) (s13.free nl) g5⟩
end
end U
namespace U
open PySem PySem.Spec PyProof.Rows L2

/-- new objects, one for each pair -/
theorem lc_freshZ {K : PySem.W.Frag} {J : It} {G : Hp → Prop} {xs ys : List V} (Z : Zipped J xs ys G) (f : Nat → HO) {te : TE} {u v : Nat} {σ : L2.St} (hw : ∀ x y, wipe (((wipe σ [u, v]).set u (some x)).set v (some y)) [u, v] = wipe σ [u, v]) {H : Hp} {D : Addr} {Qd : Hp → Prop} (hD : H D = none) (hl : min xs.length ys.length ≤ 1000) (hG : ∀ H', Same H H' → G H')
    (hs : ∀ i x y H2 (Q : VK), xs[i]? = some x → ys[i]? = some y → Same H H2 → (∀ l H3, H2 l = none → Same H2 H3 → H3 l = some (f i) → Q (.ref l) H3) → te (((wipe σ [u, v]).set u (some x)).set v (some y)) H2 Q)
    (hd : ∀ (H2 : Hp) (ls : List Addr), Same H H2 → ls.length = min xs.length ys.length → H2 D = some (.lst (ls.map V.ref)) → (∀ (i : Nat) (l : Addr), ls[i]? = some l → H2 l = some (f i)) → ls.Nodup → D ∉ ls → (∀ l ∈ ls, H l = none) → Qd H2) : LcB J (gTup K 2 (gCons (gName u) (gCons (gName v) gNil))) tYes te [u, v] σ H D Qd := by
  refine lc_zip Z (fun i H' => Same H H' ∧ ∃ ls : List Addr, H' D = some (.lst (ls.map V.ref)) ∧ ls.length = i ∧ D ∉ ls ∧ (∀ (j : Nat) (a : Addr), ls[j]? = some a → H' a = some (f j)) ∧ ls.Nodup ∧ ∀ l ∈ ls, H l = none)
    ⟨same_new hD, [], upd_same, rfl, (fun m => nomatch m), (fun j a z => nomatch z), .nil, fun l m => nomatch m⟩ (fun i H' z => hG _ z.1) ?_ (fun H2 ⟨s2, ls, gD, hl, nD, at_, nd, fr⟩ => hd H2 ls s2 hl gD at_ nd nD fr)
  rintro i x y T H2' hx hy ⟨s2', ls, gD', hll, nD, at_', nd, fr⟩ nT
  have hi : i < min xs.length ys.length := by
    have h1 := (List.getElem?_eq_some_iff.mp hx).1
    have h2 := (List.getElem?_eq_some_iff.mp hy).1
    omega
  have sT : Same H2' (upd H2' T (.tup [x, y])) := same_new nT
  refine pair_in upd_same ⟨hw x y, ?_⟩
  show te _ _ _
  have s2 := s2'.trans sT
  have gD := sT _ _ gD'
  have at_ := fun j a z => sT _ _ (at_' j a z)
  generalize upd H2' T (.tup [x, y]) = H2 at *
  refine hs i x y H2 _ hx hy s2 fun l H3 nl s3 gl => ?_
  have lD : l ≠ D := by rintro rfl; rw [gD] at nl; cases nl
  have lls : l ∉ ls := fun m => by
    obtain ⟨k, lt, e⟩ := List.mem_iff_getElem.mp m
    have := at_ k l (by rw [← e]; exact List.getElem?_eq_getElem lt)
    rw [this] at nl
    cases nl
  refine ⟨_, s3 _ _ gD, ?_, (Off.trans (Same.off (s2.trans s3)) off_upd).same hD, ls ++ [l], by rw [upd_same]; simp, by simp [hll], ?_, ?_, ?_, ?_⟩
  · rw [List.length_map, hll]
    exact Nat.lt_of_lt_of_le (show i < 1001 by omega) (by decide)
  · rintro m
    rcases List.mem_append.mp m with m | m
    · exact nD m
    · exact lD (List.mem_singleton.mp m).symm
  · rintro k y' z1
    have yD : y' ≠ D := by
      rintro rfl
      rcases List.mem_append.mp (List.mem_of_getElem? z1) with m | m
      · exact nD m
      · exact lD (List.mem_singleton.mp m).symm
    rw [upd_ne yD]
    by_cases e : k < ls.length
    · rw [List.getElem?_append_left e] at z1
      exact s3 _ _ (at_ k y' z1)
    · have e2 : k = ls.length := by
        have := (List.getElem?_eq_some_iff.mp z1).1
        simp at this
        omega
      subst e2
      rw [List.getElem?_append_right (Nat.le_refl _), Nat.sub_self] at z1
      cases z1
      rw [← hll] at gl
      exact gl
  · rw [List.nodup_append]
    refine ⟨nd, by simp, fun x hx y hy => ?_⟩
    rw [List.mem_singleton.mp hy]
    rintro rfl
    exact lls hx
  · intro y m
    rcases List.mem_append.mp m with m | m
    · exact fr y m
    · rw [List.mem_singleton.mp m]
      cases e : H l with
      | none => rfl
      | some o => rw [s2 _ _ e] at nl; cases nl
/-! ### straight_ways -/
/-- the straight line costs as little as any row -/
def strO (p D : Nat → Nat → Option Int) (w : Nat × Nat) : Bool := match oline1 p D w.1 w.2 with
  | some v => decide (stepO p D w.1 w.2 = some v)
  | none => false
theorem str_stands {B M G : Int} {p D : Nat → Nat → Option Int} {q E : Nat → Nat → Int} {w : Nat × Nat} (hB : 0 ≤ B) (h1 : Stands B M (oline1 p D w.1 w.2) (lineS q E w.1 w.2)) (h2 : Stands B G (oline2 p D w.1 w.2) (lineT2 q E w.1 w.2)) (hM : M < B) (hG : G < B) : strN q E B w = strO p D w := by
  unfold strN strO stepO
  cases e1 : oline1 p D w.1 w.2 with
  | none =>
    rw [e1] at h1
    have h1 : B ≤ lineS q E w.1 w.2 := h1
    rw [decide_eq_false (by omega), Bool.false_and]
  | some v =>
    rw [e1] at h1
    obtain ⟨a1, a2, a3⟩ := h1
    rw [decide_eq_true (by omega), Bool.true_and]
    cases e2 : oline2 p D w.1 w.2 with
    | none =>
      rw [e2] at h2
      have h2 : B ≤ lineT2 q E w.1 w.2 := h2
      simp only [decide_eq_true (show lineS q E w.1 w.2 ≤ lineT2 q E w.1 w.2 by omega)]
      exact (decide_eq_true rfl).symm
    | some u =>
      rw [e2] at h2
      obtain ⟨b1, b2, b3⟩ := h2
      show decide _ = decide (some (min v u) = some v)
      refine decide_eq_decide.mpr ⟨fun z => ?_, fun z => ?_⟩
      · rw [a1, b1] at z
        rw [show min v u = v by omega]
      · have z := Option.some.inj z
        rw [a1, b1]
        omega
/-- the straight ways of the crates, the largest first -/
def strW (rows : List (List (Option Int))) (k : Nat) : List (Nat × Nat) := waysN.filter (strO (prF ((rows.reverse[k]?).getD [])) (towO rows k))
def Ways (H0 H : Hp) (l : Addr) (rows : List (List (Option Int))) : Prop := ∃ ls : List Addr, H l = some (.lst (ls.map V.ref)) ∧ ls.length = rows.length ∧ (∀ (k : Nat) (d : Addr), ls[k]? = some d → H d = some (.lst ((strW rows (rows.length - 1 - k)).map wayV))) ∧ ls.Nodup ∧ l ∉ ls ∧ H0 l = none ∧ ∀ d ∈ ls, H0 d = none
def sp_straight_ways (K : PySem.W.Frag) : Sp := sp1 fun x H Q E => BadY K H x E ∨ ∃ y rows, x = .ref y ∧ YdK K H y rows ∧ ∀ l H1 H', Mild K y H H1 → YdK K H1 y rows → Same H1 H' → Ways H1 H' l rows → Q (.ref l) H'
def t_straight_ways (K : PySem.W.Frag) (E : XK) : TS := (tSeq (tDrop (tFn (sp_check_yard K) E (tCons (tVar 0) tNil))) (tSeq (tAsg (tMeth (He.ga K "Yard") "reckoning" (sp_Yard_reckoning K) [] E (tVar 0) tNil) (gName 1)) (tSeq (tAsg (tLc (iZipV K (tCons (tFld K (tVar 1) "prices") (tCons (tFld K (tVar 1) "towers") tNil))) (gTup K 2 (gCons (gName 3) (gCons (gName 4) gNil))) tYes (tFn (sp__straight_ways K) E0 (tCons (tVar 3) (tCons (tVar 4) (tCons (tFld K (tVar 1) "bound") tNil)))) [3, 4]) (gName 2)) (tRet (tRevL K (tVar 2))))))
theorem price_stands {rows : List (List (Option Int))} {g : Int} (hg : Great rows g) (h6 : ∀ r ∈ rows, r.length = 6) {r : List (Option Int)} (mr : r ∈ rows) {i j : Nat} (hi : i < 3) (hj : j < 3) (n : i ≠ j) : Stands (g * 4 ^ rows.length) g (prF r i j) (fnOf (rowI (g * 4 ^ rows.length) r) i j) := by
  have l6 := h6 r mr
  have c6 : colN i j < r.length := by
    rw [l6]
    unfold colN
    split <;> omega
  unfold prF fnOf rowI
  rw [List.getElem?_map, List.getElem?_eq_getElem c6]
  have mo : r[colN i j] ∈ r := List.getElem_mem c6
  generalize r[colN i j] = o at *
  cases o with
  | none => exact Int.le_refl _
  | some v =>
    have mp : v ∈ priced rows := List.mem_flatMap.mpr ⟨r, mr, List.mem_filterMap.mpr ⟨some v, mo, rfl⟩⟩
    have := hg.2.2 v mp
    exact ⟨rfl, Int.le_of_lt this.1, this.2⟩
section
variable {K : PySem.W.Frag} (F : KF K) (R : KR K) {vs : List V} {H : Hp} {Q : VK} {E : XK}
local macro_rules | `(tactic| walk_at "w") => `(tactic| try simp only [turnE, lcT, Snoc, tRet, tRetN, tAndV, tOrV, tNotV, tCB, tCons, tVar, tNil, tC, tOp, tSeq, tAsg, gName, gSub, tIfS, tDrop, tFn, tTup, tLst, tNext, tB, tTest, tNot, tAnd, tOr, tIf, tChain, tUn, rU, tFld, tPart, tNoPart, L2.tSl, tBM, tPar, tPar3, tTruth, tDNewK,
  L2.start, List.map_cons, List.map_nil, List.length_cons, List.length_nil, List.replicate_succ, List.replicate_zero, List.append_nil, List.nil_append, List.cons_append, List.singleton_append, Nat.sub_self, Nat.zero_add, Nat.reduceAdd, Nat.reduceSub,
  List.getElem?_cons_zero, List.getElem?_cons_succ, List.set_cons_zero, List.set_cons_succ, Option.some.injEq, exists_eq_left, exists_eq_left', V.int.injEq, V.bl.injEq, V.str.injEq, V.ref.injEq,
  uAdd_int, uAdd_str, uSub_int, uMul_int, uMul_str, uDiv_int, uMod_int, uPow_int, uLt_int, uLe_int, uGt_int, uGe_int, uIs_non, uNis_non, uIs_bl, uNis_bl, sp1, sp2, sp3, sp4, uEq_int, uEq_str, uNe_int, uNe_str, uSl_str, uLen_str, decide_eq_true_eq])
local macro_rules | `(tactic| walk_at "1") => `(tactic| try simp only [turnE, lcT, Snoc, tRet, tRetN, tAndV, tOrV, tNotV, tCB, tCons, tVar, tNil, tC, tOp, tAsg, gName, gSub, tIfS, tDrop, tFn, tTup, tLst, tNext, tB, tTest, tNot, tAnd, tOr, tIf, tChain, tUn, rU, tFld, tPart, tNoPart, L2.tSl, tBM, tPar, tPar3, tTruth, tDNewK,
  L2.start, List.map_cons, List.map_nil, List.length_cons, List.length_nil, List.replicate_succ, List.replicate_zero, List.append_nil, List.nil_append, List.cons_append, List.singleton_append, Nat.sub_self, Nat.zero_add, Nat.reduceAdd, Nat.reduceSub,
  List.getElem?_cons_zero, List.getElem?_cons_succ, List.set_cons_zero, List.set_cons_succ, Option.some.injEq, exists_eq_left, exists_eq_left', V.int.injEq, V.bl.injEq, V.str.injEq, V.ref.injEq,
  uAdd_int, uAdd_str, uSub_int, uMul_int, uMul_str, uDiv_int, uMod_int, uPow_int, uLt_int, uLe_int, uGt_int, uGe_int, uIs_non, uNis_non, uIs_bl, uNis_bl, sp1, sp2, sp3, sp4, uEq_int, uEq_str, uNe_int, uNe_str, uSl_str, uLen_str, decide_eq_true_eq])
local macro_rules | `(tactic| walk_at "s") => `(tactic| ((try dsimp only [turnE]); with_reducible refine seq_ ?_))

theorem tLc_zipA {ta : TA} {g : TG} {tt : TT} {te : TE} {vs : List Nat} {σ : L2.St} (h : RZ.iZipA K ta σ H fun J H1 => ∀ D, H1 D = none → LcB J g tt te vs σ H1 D (Q (.ref D))) : tLc (iZipV K ta) g tt te vs σ H Q := .inr h
theorem level_str {rows : List (List (Option Int))} {g : Int} (hg : Great rows g) (h6 : ∀ r ∈ rows, r.length = 6) {k : Nat} (hk : k < rows.length) : waysN.filter (strN (fnOf (rowI (g * 4 ^ rows.length) ((rows.reverse[k]?).getD []))) (levelQ (rows.reverse.map (rowI (g * 4 ^ rows.length))) k) (g * 4 ^ rows.length)) = strW rows k := by
  unfold strW
  refine List.filter_congr fun w mw => ?_
  obtain ⟨hi, hj, n⟩ := waysN_ok w mw
  have lt : k < rows.reverse.length := by rw [List.length_reverse]; exact hk
  rw [List.getElem?_eq_getElem lt]
  show strN (fnOf (rowI _ rows.reverse[k])) _ _ w = strO (prF rows.reverse[k]) _ w
  have mr : rows.reverse[k] ∈ rows := List.mem_reverse.mp (List.getElem_mem lt)
  generalize rows.reverse[k] = r at *
  have pos : (0 : Int) ≤ g * 4 ^ rows.length := Int.mul_nonneg (Int.le_of_lt hg.1) (Int.pow_nonneg (by decide))
  have st := levelQ_stands hg h6 k (Nat.le_of_lt hk)
  have top := mostN_bound (G := g) (k := k + 1) (n := rows.length) hg.1 hk
  have m0 := mostN_nonneg (G := g) (Int.le_of_lt hg.1) k
  have e : mostN g (k + 1) = 3 * mostN g k + 2 * g := rfl
  have g0 := hg.1
  have pr := fun i j (hi : i < 3) (hj : j < 3) (n : i ≠ j) => price_stands hg h6 mr hi hj n
  have ht : 3 - w.1 - w.2 < 3 ∧ w.1 ≠ 3 - w.1 - w.2 ∧ 3 - w.1 - w.2 ≠ w.2 := by omega
  refine str_stands pos (osum3 pos (st _ _ hi ht.1 ht.2.1) (pr _ _ hi hj n) (st _ _ ht.1 hj ht.2.2)) (osum5 pos (st _ _ hi hj n) (pr _ _ hi ht.1 ht.2.1) (st _ _ hj hi n.symm) (pr _ _ ht.1 hj ht.2.2) (st _ _ hi hj n)) (by omega) (by omega)
include F R in
theorem read_straight_ways (h : sp_straight_ways K vs H Q E) : t_straight_ways K E { nx := fun _ H' => Q .non H', rt := Q } (start ["yard", "reckoning", "ways", "prices", "towers"] vs) H := by
  match vs, h with
  | [_], .inl bad =>
    unfold t_straight_ways
    walk_at "s"
    walk_at "1"
    exact bad.chk
  | [_], .inr ⟨y, rows, rfl, hy, q⟩ =>
    obtain ⟨h1, ok, dx, t, rk, gy, hk⟩ := id hy
    have h6 := len6_of h1
    have h60 : rows.length ≤ 60 := by
      obtain ⟨_, _, _, _, _, _, y4, _⟩ := h1
      exact y4
    unfold t_straight_ways
    walk_at "s"
    walk_at "1"
    refine ⟨.yard, is_yard F gy, fun _ => ?_, fun z => (z rfl).elim⟩
    walk_at "s"
    walk_at "1"
    refine ⟨.ref y, rfl, y, dx, _, rfl, gy, rfl, y, rows, rfl, hy, fun a H1 o1 hy1 ra yr old sm => ?_⟩
    obtain ⟨g, lp, lt, hg, ⟨da, bk, ga, kb⟩, ⟨bs, b1, b2, b3⟩, cs, c1, c2, c3⟩ := id ra
    walk_at "s"
    have lb : bs.length = rows.length := by rw [b2, List.length_map, List.length_reverse]
    have lc : cs.length = rows.length + 1 := by
      rw [c2]
      unfold towersL
      rw [List.length_map, List.length_range, List.length_map, List.length_reverse]
    have mi : min (bs.map V.ref).length (cs.map V.ref).length = rows.length := by rw [List.length_map, List.length_map, lb, lc]; omega
    refine tLc_zipA ?_
    refine ⟨.ref a, rfl, a, _, da, _, .ref lp, rfl, ga, R.cl, R.prices, rfl, .ref a, rfl, a, _, da, _, .ref lt, rfl, ga, R.cl, R.towers, rfl, lp, lt, _, _, rfl, .inl ⟨.inl (.inl b1), .inl (.inl c1), fun D hD => ?_⟩⟩
    refine lc_freshZ (zipped_LL (K := K) (a := lp) (b := lt) (xs := bs.map V.ref) (ys := cs.map V.ref)) (fun k => .lst ((strW rows k).map wayV)) (fun x z => rfl) hD (by rw [mi]; omega) (fun H' s => ⟨.inl (.inl (s _ _ b1)), .inl (.inl (s _ _ c1))⟩) ?_ ?_
    · intro k x z H2 Q2 hx hz s2 go
      rw [List.getElem?_map] at hx hz
      obtain ⟨b, hb, rfl⟩ := Option.map_eq_some_iff.mp hx
      obtain ⟨c, hc, rfl⟩ := Option.map_eq_some_iff.mp hz
      have lk : k < rows.length := by rw [← lb]; exact (List.getElem?_eq_some_iff.mp hb).1
      have tb := Same.sqT s2 (b3 k b (rowI (g * 4 ^ rows.length) ((rows.reverse[k]?).getD [])) hb (by
        rw [List.getElem?_map, List.getElem?_eq_getElem (by rw [List.length_reverse]; exact lk)]
        rfl))
      have tc := Same.sqT s2 (c3 k c (six (levelQ (rows.reverse.map (rowI (g * 4 ^ rows.length))) k)) hc (by
        unfold towersL
        rw [List.getElem?_map, List.getElem?_range (by rw [List.length_map, List.length_reverse]; omega)]
        rfl))
      have m6 : (rowI (g * 4 ^ rows.length) ((rows.reverse[k]?).getD [])).length = 6 := by
        unfold rowI
        rw [List.length_map, List.getElem?_eq_getElem (by rw [List.length_reverse]; exact lk)]
        exact h6 _ (List.mem_reverse.mp (List.getElem_mem _))
      refine ⟨.ref b, rfl, .ref c, rfl, .ref a, rfl, a, _, da, _, .int (g * 4 ^ rows.length), rfl, s2 _ _ ga, R.cl, R.bound, rfl, ?_⟩
      refine ⟨b, c, fnOf (rowI (g * 4 ^ rows.length) ((rows.reverse[k]?).getD [])), levelQ (rows.reverse.map (rowI (g * 4 ^ rows.length))) k, _, rfl, rfl, rfl, by rw [six_fn m6]; exact tb, tc, fun l H3 s3 nl gl => ?_⟩
      rw [level_str hg h6 lk] at gl
      exact go l H3 nl s3 gl
    · intro H2 ls s2 hl gD at_ nd nD fr
      rw [mi] at hl
      refine ⟨.ref D, rfl, D, _, rfl, .inl (.inl gD), fun p hp => ?_⟩
      have sp : Same H2 (upd H2 p (.lst (ls.map V.ref).reverse)) := same_new hp
      have gp : upd H2 p (.lst (ls.map V.ref).reverse) p = some (.lst (ls.reverse.map V.ref)) := by rw [upd_same, List.map_reverse]
      generalize upd H2 p (.lst (ls.map V.ref).reverse) = H3 at *
      refine q p H1 H3 (mild_reck gy o1 yr old sm) hy1 (s2.trans sp) ⟨ls.reverse, gp, by rw [List.length_reverse, hl], fun k d e => ?_, List.pairwise_reverse.mpr (List.Pairwise.imp (fun h => Ne.symm h) nd), fun m => ?_, s2.free hp, fun d m => fr d (List.mem_reverse.mp m)⟩
      · have lk : k < ls.length := by
          have := (List.getElem?_eq_some_iff.mp e).1
          rw [List.length_reverse] at this
          exact this
        rw [List.getElem?_reverse lk, hl] at e
        exact sp _ _ (at_ _ d e)
      · have m2 := List.mem_reverse.mp m
        obtain ⟨k, lt2, e⟩ := List.mem_iff_getElem.mp m2
        have := at_ k p (by rw [← e]; exact List.getElem?_eq_getElem lt2)
        rw [this] at hp
        cases hp
end
end U
namespace U
open PySem PySem.Spec PyProof.Rows L2

/-! ### from an arrangement to the towers -/
/-- the costs to the towers of one crate more, at s at first; u: those of its rest -/
def fromP (f D : Nat → Nat → Int) (u : Nat → Int) (s j : Nat) : Int := if j = s then u j else min (u (3 - s - j) + f s j + D (3 - s - j) j) (u j + f s (3 - s - j) + D j s + f (3 - s - j) j + D s j)
def sp__from_place (K : PySem.W.Frag) : Sp := sp4 fun x y z w H Q _ => ∃ s p q r f D u, x = .str (wd [s]) ∧ s < 3 ∧ y = .ref p ∧ z = .ref q ∧ w = .ref r ∧ SqT K H p (iV (six f)) ∧ SqT K H q (iV (six D)) ∧ SqT K H r (iV (three u)) ∧ ∀ l H', Same H H' → H l = none → H' l = some (.tup (iV (three (fromP f D u s)))) → Q (.ref l) H'
def t__from_place (K : PySem.W.Frag) (E : XK) : TS := (tSeq (tAsg (tVar 2) (gTup K 6 (gCons (gName 4) (gCons (gName 5) (gCons (gName 6) (gCons (gName 7) (gCons (gName 8) (gCons (gName 9) gNil)))))))) (tSeq (tAsg (tVar 1) (gTup K 6 (gCons (gName 10) (gCons (gName 11) (gCons (gName 12) (gCons (gName 13) (gCons (gName 14) (gCons (gName 15) gNil)))))))) (tSeq (tAsg (tVar 3) (gTup K 3 (gCons (gName 16) (gCons (gName 17) (gCons (gName 18) gNil))))) (tSeq (tIfS (tTest (tOp (uEq K) (tVar 0) (tC (.str "a")))) (tRet (tTup (tCons (tVar 16) (tCons (tCB uMin2 (tCons (tOp uAdd (tOp uAdd (tVar 18) (tVar 10)) (tVar 9)) (tCons (tOp uAdd (tOp uAdd (tOp uAdd (tOp uAdd (tVar 17) (tVar 11)) (tVar 6)) (tVar 15)) (tVar 4)) tNil))) (tCons (tCB uMin2 (tCons (tOp uAdd (tOp uAdd (tVar 17) (tVar 11)) (tVar 7)) (tCons (tOp uAdd (tOp uAdd (tOp uAdd (tOp uAdd (tVar 18) (tVar 10)) (tVar 8)) (tVar 13)) (tVar 5)) tNil))) tNil))))) tNext) (tSeq (tIfS (tTest (tOp (uEq K) (tVar 0) (tC (.str "b")))) (tRet (tTup (tCons (tCB uMin2 (tCons (tOp uAdd (tOp uAdd (tVar 18) (tVar 12)) (tVar 8)) (tCons (tOp uAdd (tOp uAdd (tOp uAdd (tOp uAdd (tVar 16) (tVar 13)) (tVar 4)) (tVar 14)) (tVar 6)) tNil))) (tCons (tVar 17) (tCons (tCB uMin2 (tCons (tOp uAdd (tOp uAdd (tVar 16) (tVar 13)) (tVar 5)) (tCons (tOp uAdd (tOp uAdd (tOp uAdd (tOp uAdd (tVar 18) (tVar 12)) (tVar 9)) (tVar 11)) (tVar 7)) tNil))) tNil))))) tNext) (tRet (tTup (tCons (tCB uMin2 (tCons (tOp uAdd (tOp uAdd (tVar 17) (tVar 14)) (tVar 6)) (tCons (tOp uAdd (tOp uAdd (tOp uAdd (tOp uAdd (tVar 16) (tVar 15)) (tVar 5)) (tVar 12)) (tVar 8)) tNil))) (tCons (tCB uMin2 (tCons (tOp uAdd (tOp uAdd (tVar 16) (tVar 15)) (tVar 4)) (tCons (tOp uAdd (tOp uAdd (tOp uAdd (tOp uAdd (tVar 17) (tVar 14)) (tVar 7)) (tVar 10)) (tVar 9)) tNil))) (tCons (tVar 18) tNil))))))))))
section
variable {K : PySem.W.Frag} (F : KF K) (R : KR K) {vs : List V} {H : Hp} {Q : VK} {E : XK}
local macro_rules | `(tactic| walk_at "w") => `(tactic| try simp only [turnE, lcT, Snoc, tRet, tRetN, tAndV, tOrV, tNotV, tCB, tCons, tVar, tNil, tC, tOp, tSeq, tAsg, gName, gSub, tIfS, tDrop, tFn, tTup, tLst, tNext, tB, tTest, tNot, tAnd, tOr, tIf, tChain, tUn, rU, tFld, tPart, tNoPart, L2.tSl, tBM, tPar, tPar3, tTruth, tDNewK,
  L2.start, List.map_cons, List.map_nil, List.length_cons, List.length_nil, List.replicate_succ, List.replicate_zero, List.append_nil, List.nil_append, List.cons_append, List.singleton_append, Nat.sub_self, Nat.zero_add, Nat.reduceAdd, Nat.reduceSub,
  List.getElem?_cons_zero, List.getElem?_cons_succ, List.set_cons_zero, List.set_cons_succ, Option.some.injEq, exists_eq_left, exists_eq_left', V.int.injEq, V.bl.injEq, V.str.injEq, V.ref.injEq,
  uAdd_int, uAdd_str, uSub_int, uMul_int, uMul_str, uDiv_int, uMod_int, uPow_int, uLt_int, uLe_int, uGt_int, uGe_int, uIs_non, uNis_non, uIs_bl, uNis_bl, sp1, sp2, sp3, sp4, uEq_int, uEq_str, uNe_int, uNe_str, uSl_str, uLen_str, decide_eq_true_eq])
local macro_rules | `(tactic| walk_at "1") => `(tactic| try simp only [turnE, lcT, Snoc, tRet, tRetN, tAndV, tOrV, tNotV, tCB, tCons, tVar, tNil, tC, tOp, tAsg, gName, gSub, tIfS, tDrop, tFn, tTup, tLst, tNext, tB, tTest, tNot, tAnd, tOr, tIf, tChain, tUn, rU, tFld, tPart, tNoPart, L2.tSl, tBM, tPar, tPar3, tTruth, tDNewK,
  L2.start, List.map_cons, List.map_nil, List.length_cons, List.length_nil, List.replicate_succ, List.replicate_zero, List.append_nil, List.nil_append, List.cons_append, List.singleton_append, Nat.sub_self, Nat.zero_add, Nat.reduceAdd, Nat.reduceSub,
  List.getElem?_cons_zero, List.getElem?_cons_succ, List.set_cons_zero, List.set_cons_succ, Option.some.injEq, exists_eq_left, exists_eq_left', V.int.injEq, V.bl.injEq, V.str.injEq, V.ref.injEq,
  uAdd_int, uAdd_str, uSub_int, uMul_int, uMul_str, uDiv_int, uMod_int, uPow_int, uLt_int, uLe_int, uGt_int, uGe_int, uIs_non, uNis_non, uIs_bl, uNis_bl, sp1, sp2, sp3, sp4, uEq_int, uEq_str, uNe_int, uNe_str, uSl_str, uLen_str, decide_eq_true_eq])
local macro_rules | `(tactic| walk_at "s") => `(tactic| ((try dsimp only [turnE]); with_reducible refine seq_ ?_))

include F in
theorem read__from_place (h : sp__from_place K vs H Q E) : t__from_place K E { nx := fun _ H' => Q .non H', rt := Q } (start ["place", "prices", "towers", "below", "ab", "ac", "ba", "bc", "ca", "cb", "price_ab", "price_ac", "price_ba", "price_bc", "price_ca", "price_cb", "to_a", "to_b", "to_c"] vs) H := by
  match vs, h with
  | [_, _, _, _], ⟨s, p, b, r, f, D, u, rfl, hs, rfl, rfl, rfl, hp, hb, hr, q⟩ =>
    unfold t__from_place
    walk_at "s"
    walk_at "1"
    refine ⟨b, _, rfl, hb, rfl, un1 (un1 (un1 (un1 (un1 (un1 (un0 ?_))))))⟩
    walk_at "s"
    walk_at "1"
    refine ⟨p, _, rfl, hp, rfl, un1 (un1 (un1 (un1 (un1 (un1 (un0 ?_))))))⟩
    walk_at "s"
    walk_at "1"
    refine ⟨r, _, rfl, hr, rfl, un1 (un1 (un1 (un0 ?_)))⟩
    walk_at "s"
    walk_at "1"
    obtain rfl | rfl | rfl : s = 0 ∨ s = 1 ∨ s = 2 := by omega
    · rw [if_pos (by decide)]
      refine ⟨_, _, rfl, ⟨_, _, rfl, ⟨by decide, fun l hl => q l _ (same_new hl) hl ?_⟩⟩⟩
      rw [upd_same]
      simp only [min_int]
      rfl
    · rw [if_neg (by decide)]
      walk_at "s"
      walk_at "1"
      rw [if_pos (by decide)]
      refine ⟨_, _, rfl, ⟨_, _, rfl, ⟨by decide, fun l hl => q l _ (same_new hl) hl ?_⟩⟩⟩
      rw [upd_same]
      simp only [min_int]
      rfl
    · rw [if_neg (by decide)]
      walk_at "s"
      walk_at "1"
      rw [if_neg (by decide)]
      walk_at "1"
      refine ⟨_, _, rfl, ⟨_, _, rfl, ⟨by decide, fun l hl => q l _ (same_new hl) hl ?_⟩⟩⟩
      rw [upd_same]
      simp only [min_int]
      rfl
end
end U
namespace U
open PySem PySem.Spec PyProof.Rows L2

/-! ### the levels of the costs to the towers -/
def sp_to_towers_above (K : PySem.W.Frag) : Sp := sp4 fun x y z w H Q _ => ∃ s p q r f D u, x = .str (wd [s]) ∧ s < 3 ∧ y = .ref p ∧ z = .ref q ∧ w = .ref r ∧ SqT K H p (iV (six f)) ∧ SqT K H q (iV (six D)) ∧ SqT K H r (iV (three u)) ∧ ∀ l H', Same H H' → H l = none → H' l = some (.tup (iV (three (fromP f D u s)))) → Q (.ref l) H'
/-- of the k smallest crates of an arrangement, the smallest first -/
def toQ (qs : List (List Int)) (ss : List Nat) : Nat → Nat → Int
  | 0 => fun _ => 0
  | k + 1 => fromP (fnOf ((qs[k]?).getD [])) (levelQ qs k) (toQ qs ss k) ((ss[k]?).getD 0)
/-- the numbers of a reckoning -/
def RkN (K : PySem.W.Frag) (H : Hp) (a : Addr) (B : Int) (qs : List (List Int)) : Prop := ∃ lp lt : Addr, RkAt K H a B (.ref lp) (.ref lt) ∧ PrB K H lp qs ∧ PrB K H lt (towersL qs) ∧ (∀ q ∈ qs, q.length = 6) ∧ qs.length ≤ 60
def sp_Reckoning_to_towers (K : PySem.W.Frag) : Sp := sp2 fun x y H Q _ => ∃ a B qs ds, x = .ref a ∧ y = .str (wd ds) ∧ RkN K H a B qs ∧ D3 ds ∧ ds.length ≤ qs.length ∧
  ∀ (l : Addr) (cs : List Addr) (H' : Hp), Same H H' → H' l = some (.lst (cs.map V.ref)) → cs.length = ds.length + 1 → (∀ (k : Nat) (c : Addr), cs[k]? = some c → SqT K H' c (iV (three (toQ qs ds.reverse k)))) → Q (.ref l) H'
def t_to_towers_above (K : PySem.W.Frag) (E : XK) : TS := (tSeq (tIfS (tTest (tOp (uEq K) (tCB (uLen K) (tCons (tVar 0) tNil)) (tC (.int 1)))) (tRet (tFn (sp__from_place K) E (tCons (tVar 0) (tCons (tVar 1) (tCons (tVar 2) (tCons (tVar 3) tNil)))))) tNext) (tSeq (tAsg (tLc (iSeq K (tVar 0)) (gName 5) tYes (tFn (sp__from_place K) E0 (tCons (tVar 5) (tCons (tVar 1) (tCons (tVar 2) (tCons (tVar 3) tNil))))) [5]) (gName 4)) tNeverS))
def t_Reckoning_to_towers (K : PySem.W.Frag) (E : XK) : TS := (tSeq (tAsg (tLst (tCons (tTup (tCons (tC (.int 0)) (tCons (tC (.int 0)) (tCons (tC (.int 0)) tNil)))) tNil)) (gName 2)) (tSeq (tFor (iZip3 K (tCons (tRevS (tVar 1)) (tCons (tFld K (tVar 0) "prices") (tCons (tFld K (tVar 0) "towers") tNil)))) (gTup K 3 (gCons (gName 3) (gCons (gName 4) (gCons (gName 5) gNil)))) (tDrop (tBM K "list" rAppend (tVar 2) (tCons (tFn (sp_to_towers_above K) E (tCons (tVar 3) (tCons (tVar 4) (tCons (tVar 5) (tCons (tOp (uIx K) (tVar 2) (tUn (rU fun i => .int (-i)) (tC (.int 1)))) tNil))))) tNil)))) (tRet (tVar 2))))
section
variable {K : PySem.W.Frag} (F : KF K) (R : KR K) {vs : List V} {H : Hp} {Q : VK} {E : XK}
local macro_rules | `(tactic| walk_at "w") => `(tactic| try simp only [turnE, lcT, Snoc, tRet, tRetN, tAndV, tOrV, tNotV, tCB, tCons, tVar, tNil, tC, tOp, tSeq, tAsg, gName, gSub, tIfS, tDrop, tFn, tTup, tLst, tNext, tB, tTest, tNot, tAnd, tOr, tIf, tChain, tUn, rU, tFld, tPart, tNoPart, L2.tSl, tBM, tPar, tPar3, tTruth, tDNewK,
  L2.start, List.map_cons, List.map_nil, List.length_cons, List.length_nil, List.replicate_succ, List.replicate_zero, List.append_nil, List.nil_append, List.cons_append, List.singleton_append, Nat.sub_self, Nat.zero_add, Nat.reduceAdd, Nat.reduceSub,
  List.getElem?_cons_zero, List.getElem?_cons_succ, List.set_cons_zero, List.set_cons_succ, Option.some.injEq, exists_eq_left, exists_eq_left', V.int.injEq, V.bl.injEq, V.str.injEq, V.ref.injEq,
  uAdd_int, uAdd_str, uSub_int, uMul_int, uMul_str, uDiv_int, uMod_int, uPow_int, uLt_int, uLe_int, uGt_int, uGe_int, uIs_non, uNis_non, uIs_bl, uNis_bl, sp1, sp2, sp3, sp4, uEq_int, uEq_str, uNe_int, uNe_str, uSl_str, uLen_str, decide_eq_true_eq])
local macro_rules | `(tactic| walk_at "1") => `(tactic| try simp only [turnE, lcT, Snoc, tRet, tRetN, tAndV, tOrV, tNotV, tCB, tCons, tVar, tNil, tC, tOp, tAsg, gName, gSub, tIfS, tDrop, tFn, tTup, tLst, tNext, tB, tTest, tNot, tAnd, tOr, tIf, tChain, tUn, rU, tFld, tPart, tNoPart, L2.tSl, tBM, tPar, tPar3, tTruth, tDNewK,
  L2.start, List.map_cons, List.map_nil, List.length_cons, List.length_nil, List.replicate_succ, List.replicate_zero, List.append_nil, List.nil_append, List.cons_append, List.singleton_append, Nat.sub_self, Nat.zero_add, Nat.reduceAdd, Nat.reduceSub,
  List.getElem?_cons_zero, List.getElem?_cons_succ, List.set_cons_zero, List.set_cons_succ, Option.some.injEq, exists_eq_left, exists_eq_left', V.int.injEq, V.bl.injEq, V.str.injEq, V.ref.injEq,
  uAdd_int, uAdd_str, uSub_int, uMul_int, uMul_str, uDiv_int, uMod_int, uPow_int, uLt_int, uLe_int, uGt_int, uGe_int, uIs_non, uNis_non, uIs_bl, uNis_bl, sp1, sp2, sp3, sp4, uEq_int, uEq_str, uNe_int, uNe_str, uSl_str, uLen_str, decide_eq_true_eq])
local macro_rules | `(tactic| walk_at "s") => `(tactic| ((try dsimp only [turnE]); with_reducible refine seq_ ?_))

theorem wd_cp {es : List Nat} {i c : Nat} (h : (wd es).cps[i]? = some c) : ∃ s, es[i]? = some s ∧ c = 97 + s := by
  unfold wd at h
  rw [List.getElem?_toArray, List.getElem?_map] at h
  obtain ⟨s, hs, e⟩ := Option.map_eq_some_iff.mp h
  exact ⟨s, hs, e.symm⟩
theorem tFor_zip3 {ta : TA} {g : TG} {tb : TS} {D : Ends} {σ : L2.St} (h : ta σ H fun vs H1 => ∃ x a b xs ys, vs = [.str x, .ref a, .ref b] ∧ (SqL K H1 a xs ∧ (SqL K H1 b ys ∧ tFor (fun _ H' R => R (Itz3 K x a b) H') g tb D σ H1))) : tFor (iZip3 K ta) g tb D σ H := h
include F in
theorem read_to_towers_above (h : sp_to_towers_above K vs H Q E) : t_to_towers_above K E { nx := fun _ H' => Q .non H', rt := Q } (start ["places", "prices", "towers", "below", "ones", "place", "costs"] vs) H := by
  match vs, h with
  | [_, _, _, _], ⟨s, p, b, r, f, D, u, rfl, hs, rfl, rfl, rfl, hp, hb, hr, q⟩ =>
    unfold t_to_towers_above
    walk_at "s"
    walk_at "1"
    have l1 : (wd [s]).length = 1 := by rw [wd_length]; rfl
    refine ⟨by rw [l1]; decide, ?_⟩
    rw [l1, if_pos (by decide)]
    exact ⟨s, p, b, r, f, D, u, rfl, hs, rfl, rfl, rfl, hp, hb, hr, q⟩
include F R in
theorem read_Reckoning_to_towers (h : sp_Reckoning_to_towers K vs H Q E) : t_Reckoning_to_towers K E { nx := fun _ H' => Q .non H', rt := Q } (start ["self", "starts", "levels", "places", "prices", "towers"] vs) H := by
  match vs, h with
  | [_, _], ⟨a, B, qs, ds, rfl, rfl, ⟨lp, lt, ⟨da, bk, ga⟩, ⟨bs, b1, b2, b3⟩, ⟨ts, c1, c2, c3⟩, h6, h60⟩, d3, hl, q⟩ =>
    unfold t_Reckoning_to_towers
    walk_at "s"
    walk_at "1"
    refine ⟨by decide, fun z nz => ⟨by decide, fun l nl => ?_⟩⟩
    have s2 : Same H (upd H z (.tup (iV [0, 0, 0]))) := same_new nz
    have gz : upd H z (.tup (iV [0, 0, 0])) z = some (.tup (iV [0, 0, 0])) := upd_same
    change upd H z (.tup (iV [0, 0, 0])) l = none at nl
    show tSeq _ _ _ _ (upd (upd H z (.tup (iV [0, 0, 0]))) l (.lst [.ref z]))
    generalize upd H z (.tup (iV [0, 0, 0])) = H2 at *
    have s3 : Same H2 (upd H2 l (.lst [.ref z])) := same_new nl
    have g3 : upd H2 l (.lst [.ref z]) l = some (.lst [.ref z]) := upd_same
    generalize upd H2 l (.lst [.ref z]) = H3 at *
    have s13 := s2.trans s3
    walk_at "s"
    refine tFor_zip3 ?_
    have hw : (wd ds).length ≤ sizeLine := by rw [wd_length, sizeLine_eq]; omega
    refine ⟨.str (wd ds), rfl, wd ds, rfl, hw, fun u => ?_⟩
    rw [rev_wd2]
    have b1' := s13 _ _ b1
    have c1' := s13 _ _ c1
    refine ⟨.ref a, rfl, a, _, da, _, .ref lp, rfl, s13 _ _ ga, R.cl, R.prices, rfl, .ref a, rfl, a, _, da, _, .ref lt, rfl, s13 _ _ ga, R.cl, R.towers, rfl, wd ds.reverse, lp, lt, _, _, rfl, .inl (.inl b1'), .inl (.inl c1'), ?_⟩
    have sz : (wd ds.reverse).cps.size = ds.length := by
      show (wd ds.reverse).length = _
      rw [wd_length, List.length_reverse]
    have lc : ts.length = qs.length + 1 := by
      rw [c2]
      unfold towersL; rw [List.length_map, List.length_range]
    refine for_zip3 (K := K) (x := wd ds.reverse) (a := lp) (b := lt) (xs := bs.map V.ref) (ys := ts.map V.ref) (fun R r => r) (by rw [sz, List.length_map, b2]; exact hl) (by rw [sz, List.length_map, lc]; omega)
      (fun i τ H' => (∃ o3 o4 o5, τ = [some (.ref a), some (.str (wd ds)), some (.ref l), o3, o4, o5]) ∧ Same H2 H' ∧ ∃ cs : List Addr, H' l = some (.lst (cs.map V.ref)) ∧ cs.length = i + 1 ∧ ∀ (k : Nat) (c : Addr), cs[k]? = some c → SqT K H' c (iV (three (toQ qs ds.reverse k))))
      ⟨⟨_, _, _, rfl⟩, s3, [z], g3, rfl, fun k c e => ?_⟩ (fun i τ H' w => ⟨.inl (.inl (w.2.1 _ _ (s2 _ _ b1))), .inl (.inl (w.2.1 _ _ (s2 _ _ c1)))⟩) ?_ ?_
    · match k, e with
      | 0, e =>
        cases e
        exact .inl (.inl (s3 _ _ gz))
    · rintro i c u v τ H5 T hc hu hv ⟨⟨o3, o4, o5, rfl⟩, s5, cs, k1, k2, k3⟩ nT
      rw [List.getElem?_map] at hu hv
      obtain ⟨b, hb, rfl⟩ := Option.map_eq_some_iff.mp hu
      obtain ⟨t, ht, rfl⟩ := Option.map_eq_some_iff.mp hv
      obtain ⟨s, hs, rfl⟩ := wd_cp hc
      have ls : i < qs.length := by
        have := (List.getElem?_eq_some_iff.mp hs).1
        rw [List.length_reverse] at this
        omega
      have s3lt : s < 3 := d3 s (List.mem_reverse.mp (List.mem_of_getElem? hs))
      have hq : qs[i]? = some qs[i] := List.getElem?_eq_getElem ls
      have m6 := h6 _ (List.getElem_mem ls)
      have sT : Same H2 (upd H5 T (.tup [.str ⟨#[97 + s]⟩, .ref b, .ref t])) := s5.trans (same_new nT)
      have tb := Same.sqT (s2.trans sT) (b3 i b _ hb hq)
      have tt := Same.sqT (s2.trans sT) (c3 i t (six (levelQ qs i)) ht (by
        unfold towersL
        rw [List.getElem?_map, List.getElem?_range (by omega)]
        rfl))
      obtain ⟨d, hd⟩ : ∃ d, cs[i]? = some d := ⟨_, List.getElem?_eq_getElem (by omega)⟩
      have td : SqT K (upd H5 T (.tup [.str ⟨#[97 + s]⟩, .ref b, .ref t])) d (iV (three (toQ qs ds.reverse i))) := Same.sqT (same_new nT) (k3 i d hd)
      have next : toQ qs ds.reverse (i + 1) = fromP (fnOf qs[i]) (levelQ qs i) (toQ qs ds.reverse i) s := by
        show fromP (fnOf ((qs[i]?).getD [])) _ _ ((ds.reverse[i]?).getD 0) = _
        rw [hq, hs]
        rfl
      generalize qs[i] = w at *
      have kT : upd H5 T (.tup [.str ⟨#[97 + s]⟩, .ref b, .ref t]) l = some (.lst (cs.map V.ref)) := by
        rw [upd_ne (by rintro rfl; rw [k1] at nT; cases nT)]
        exact k1
      refine ⟨T, _, rfl, .inl (.inl upd_same), rfl, un1 (un1 (un1 (un0 ?_)))⟩
      have k3' : ∀ (k : Nat) (c : Addr), cs[k]? = some c → SqT K (upd H5 T (.tup [.str ⟨#[97 + s]⟩, .ref b, .ref t])) c (iV (three (toQ qs ds.reverse k))) := fun k c e => Same.sqT (same_new nT) (k3 k c e)
      generalize upd H5 T (.tup [.str ⟨#[97 + s]⟩, .ref b, .ref t]) = H6 at *
      simp only [List.set_cons_zero, List.set_cons_succ]
      walk_at "1"
      refine ⟨Or.inl ⟨rfl, _, .inl (.inl kT)⟩, ?_⟩
      refine ⟨_, .ref d, .inl (.inl (.inl kT)), at_end (n := i) (by rw [List.length_map, k2]) (by rw [List.getElem?_map, hd]; rfl), ?_⟩
      refine ⟨s, b, t, d, fnOf w, levelQ qs i, toQ qs ds.reverse i, rfl, s3lt, rfl, rfl, rfl, by rw [six_fn m6]; exact tb, tt, td, fun r H7 s7 nr gr => ?_⟩
      refine ⟨l, _, .ref r, rfl, rfl, s7 _ _ kT, by rw [List.length_map, k2, sizeLine_eq]; omega, ?_⟩
      have kT' := s7 _ _ kT
      have o8 : Off l H7 (upd H7 l (.lst (cs.map V.ref ++ [.ref r]))) := off_upd
      refine ⟨⟨_, _, _, rfl⟩, (Off.trans (Same.off (sT.trans s7)) o8).same nl, cs ++ [r], by rw [upd_same, List.map_append]; rfl, by rw [List.length_append, k2]; rfl, fun j c2 e => ?_⟩
      by_cases lj : j < cs.length
      · rw [List.getElem?_append_left lj] at e
        exact o8.sqT kT' (Same.sqT s7 (k3' j c2 e))
      · have ej : j = i + 1 := by
          have := (List.getElem?_eq_some_iff.mp e).1
          rw [List.length_append, List.length_singleton] at this
          omega
        subst ej
        rw [List.getElem?_append_right (by omega), k2, Nat.sub_self] at e
        cases e
        rw [next]
        exact o8.sqT kT' (.inl (.inl gr))
    · rintro τ H5 ⟨⟨o3, o4, o5, rfl⟩, s5, cs, k1, k2, k3⟩
      rw [sz] at k2
      exact ⟨_, rfl, q l cs H5 (s2.trans s5) k1 k2 k3⟩
end
end U
namespace U
open PySem PySem.Spec PyProof.Rows L2

/-! ### the ways back -/
theorem fn_six (g : Nat → Nat → Int) {i j : Nat} (hi : i < 3) (hj : j < 3) (n : i ≠ j) : fnOf (six g) i j = g i j := by
  rcases (show i = 0 ∧ j = 1 ∨ i = 0 ∧ j = 2 ∨ i = 1 ∧ j = 0 ∨ i = 1 ∧ j = 2 ∨ i = 2 ∧ j = 0 ∨ i = 2 ∧ j = 1 by omega) with ⟨rfl, rfl⟩ | ⟨rfl, rfl⟩ | ⟨rfl, rfl⟩ | ⟨rfl, rfl⟩ | ⟨rfl, rfl⟩ | ⟨rfl, rfl⟩ <;> rfl
theorem six_congr {f g : Nat → Nat → Int} (h : ∀ i j, i < 3 → j < 3 → i ≠ j → f i j = g i j) : six f = six g := by
  unfold six
  exact List.map_congr_left fun w m => by
    obtain ⟨a, b, c⟩ := waysN_ok w m
    exact h _ _ a b c
theorem levelQ_turn {qs : List (List Int)} : ∀ k, k ≤ qs.length → ∀ i j, i < 3 → j < 3 → i ≠ j → levelQ (qs.map turnQ) k i j = levelQ qs k j i := by
  intro k
  induction k with
  | zero => intro _ i j _ _ _; rfl
  | succ k ih =>
    intro hk i j hi hj n
    have ih := ih (by omega)
    have e1 : levelQ qs (k + 1) = stepN (fnOf qs[k]) (levelQ qs k) := levelQ_succ (List.getElem?_eq_getElem hk)
    have e2 : levelQ (qs.map turnQ) (k + 1) = stepN (fnOf (turnQ qs[k])) (levelQ (qs.map turnQ) k) := levelQ_succ (by rw [List.getElem?_map, List.getElem?_eq_getElem hk]; rfl)
    rw [e1, e2]
    generalize qs[k] = q at *
    have ht : 3 - i - j < 3 ∧ i ≠ 3 - i - j ∧ 3 - i - j ≠ j := by omega
    have es : 3 - j - i = 3 - i - j := by omega
    have p := fun a b (ha : a < 3) (hb : b < 3) (nab : a ≠ b) => fn_six (fun x y => fnOf q y x) ha hb nab
    show stepN (fnOf (six fun x y => fnOf q y x)) _ i j = _
    unfold stepN lineS lineT2
    rw [es, p i j hi hj n, p i _ hi ht.1 ht.2.1, p _ j ht.1 hj ht.2.2, ih i _ hi ht.1 ht.2.1, ih _ j ht.1 hj ht.2.2, ih i j hi hj n, ih j i hj hi n.symm]
    omega
def sp_Reckoning_backwards (K : PySem.W.Frag) : Sp := sp1 fun x H Q _ => ∃ (a : Addr) (B : Int) (qs : List (List Int)) (lp lt : Addr), x = .ref a ∧ (∃ dx bk, H a = some (.ins (He.ga K "Reckoning") dx (rkF B (.ref lp) (.ref lt) bk)) ∧ Bk K H bk B qs) ∧ PrB K H lp qs ∧ PrB K H lt (towersL qs) ∧ qs.length ≤ 60 ∧ (∀ q ∈ qs, q.length = 6) ∧
  ∀ (b : Addr) (H' : Hp), Off a H H' → (∃ dx bk, H' a = some (.ins (He.ga K "Reckoning") dx (rkF B (.ref lp) (.ref lt) bk)) ∧ Bk K H' bk B qs) → PrB K H' lp qs → PrB K H' lt (towersL qs) → RkN0 K H' b B (qs.map turnQ) → Q (.ref b) H'
def t_Reckoning_backwards (K : PySem.W.Frag) (E : XK) : TS := (tSeq (tIfS (tTest (tOp uIs (tFld K (tVar 0) "_backwards") (tC .non))) (tSeq (tAsg (tLc (iSeq K (tFld K (tVar 0) "prices")) (gName 2) tYes (tFn (sp_turned K) E0 (tCons (tVar 2) tNil)) [2]) (gName 1)) (sFld K (tVar 0) (tMake (He.ga K "Reckoning") (sp_Reckoning_init K) [] E (tCons (tFld K (tVar 0) "bound") (tCons (tVar 1) (tCons (tLc (iSeq K (tFld K (tVar 0) "towers")) (gName 2) tYes (tFn (sp_turned K) E0 (tCons (tVar 2) tNil)) [2]) tNil)))) "_backwards")) tNext) (tRet (tFld K (tVar 0) "_backwards")))
section
variable {K : PySem.W.Frag} (F : KF K) (R : KR K) {vs : List V} {H : Hp} {Q : VK} {E : XK}
local macro_rules | `(tactic| walk_at "w") => `(tactic| try simp only [turnE, lcT, Snoc, tRet, tRetN, tAndV, tOrV, tNotV, tCB, tCons, tVar, tNil, tC, tOp, tSeq, tAsg, gName, gSub, tIfS, tDrop, tFn, tTup, tLst, tNext, tB, tTest, tNot, tAnd, tOr, tIf, tChain, tUn, rU, tFld, tPart, tNoPart, L2.tSl, tBM, tPar, tPar3, tTruth, tDNewK,
  L2.start, List.map_cons, List.map_nil, List.length_cons, List.length_nil, List.replicate_succ, List.replicate_zero, List.append_nil, List.nil_append, List.cons_append, List.singleton_append, Nat.sub_self, Nat.zero_add, Nat.reduceAdd, Nat.reduceSub,
  List.getElem?_cons_zero, List.getElem?_cons_succ, List.set_cons_zero, List.set_cons_succ, Option.some.injEq, exists_eq_left, exists_eq_left', V.int.injEq, V.bl.injEq, V.str.injEq, V.ref.injEq,
  uAdd_int, uAdd_str, uSub_int, uMul_int, uMul_str, uDiv_int, uMod_int, uPow_int, uLt_int, uLe_int, uGt_int, uGe_int, uIs_non, uNis_non, uIs_bl, uNis_bl, sp1, sp2, sp3, sp4, uEq_int, uEq_str, uNe_int, uNe_str, uSl_str, uLen_str, decide_eq_true_eq])
local macro_rules | `(tactic| walk_at "1") => `(tactic| try simp only [turnE, lcT, Snoc, tRet, tRetN, tAndV, tOrV, tNotV, tCB, tCons, tVar, tNil, tC, tOp, tAsg, gName, gSub, tIfS, tDrop, tFn, tTup, tLst, tNext, tB, tTest, tNot, tAnd, tOr, tIf, tChain, tUn, rU, tFld, tPart, tNoPart, L2.tSl, tBM, tPar, tPar3, tTruth, tDNewK,
  L2.start, List.map_cons, List.map_nil, List.length_cons, List.length_nil, List.replicate_succ, List.replicate_zero, List.append_nil, List.nil_append, List.cons_append, List.singleton_append, Nat.sub_self, Nat.zero_add, Nat.reduceAdd, Nat.reduceSub,
  List.getElem?_cons_zero, List.getElem?_cons_succ, List.set_cons_zero, List.set_cons_succ, Option.some.injEq, exists_eq_left, exists_eq_left', V.int.injEq, V.bl.injEq, V.str.injEq, V.ref.injEq,
  uAdd_int, uAdd_str, uSub_int, uMul_int, uMul_str, uDiv_int, uMod_int, uPow_int, uLt_int, uLe_int, uGt_int, uGe_int, uIs_non, uNis_non, uIs_bl, uNis_bl, sp1, sp2, sp3, sp4, uEq_int, uEq_str, uNe_int, uNe_str, uSl_str, uLen_str, decide_eq_true_eq])
local macro_rules | `(tactic| walk_at "s") => `(tactic| ((try dsimp only [turnE]); with_reducible refine seq_ ?_))

/-- a list of turned sixes -/
theorem turned_all {l : Addr} {gs : List (Nat → Nat → Int)} {t : TE} {j : Nat} {σ : L2.St} {Q : VK} (hl : PrB K H l (gs.map six)) (few : gs.length ≤ 1000) (ht : ∀ P : VK, P (.ref l) H → t σ H P) (hj : j < σ.length)
    (q : ∀ D H', Same H H' → H D = none → PrB K H' D (gs.map fun g => six fun i j => g j i) → Q (.ref D) H') : tLc (iSeq K t) (gName j) tYes (tFn (sp_turned K) E0 (tCons (tVar j) tNil)) [j] σ H Q := by
  obtain ⟨bs, h1, h2, h3⟩ := hl
  refine tLc_inN (ht _ ⟨l, rfl, ⟨_, .inl (.inl h1)⟩, fun D hD => ?_⟩)
  rw [List.length_map] at h2
  refine lc_freshO (plain_L (K := K) (a := l) (xs := bs.map V.ref)) (fun k => .tup (iV (six fun i j => ((gs[k]?).getD fun _ _ => 0) j i))) hD (by rw [List.length_map, h2]; exact few) (fun H' s => .inl (.inl (s _ _ h1))) ?_ ?_
  · intro i x H2 Q2 hx s2 go
    rw [List.getElem?_map] at hx
    obtain ⟨b, hb, rfl⟩ := Option.map_eq_some_iff.mp hx
    have li : i < gs.length := by rw [← h2]; exact (List.getElem?_eq_some_iff.mp hb).1
    have hg : gs[i]? = some gs[i] := List.getElem?_eq_getElem li
    refine ⟨.ref b, ?_, b, gs[i], rfl, Same.sqT s2 (h3 i b (six gs[i]) hb (by rw [List.getElem?_map, hg]; rfl)), fun r H3 s3 nr gr => go r H3 nr s3 ?_⟩
    · rw [List.getElem?_set_self hj]
    · rw [hg]
      exact gr
  · intro H2 ls s2 hl2 gD at_ _ _ _
    refine q D H2 s2 hD ⟨ls, gD, by rw [hl2, List.length_map, List.length_map, h2], fun i b z z1 z2 => ?_⟩
    rw [List.getElem?_map] at z2
    obtain ⟨g, hg, rfl⟩ := Option.map_eq_some_iff.mp z2
    have := at_ i b z1
    rw [hg] at this
    exact .inl (.inl this)
include F R in
theorem read_Reckoning_backwards (h : sp_Reckoning_backwards K vs H Q E) : t_Reckoning_backwards K E { nx := fun _ H' => Q .non H', rt := Q } (start ["self", "prices", "six"] vs) H := by
  match vs, h with
  | [_], ⟨a, B, qs, lp, lt, rfl, ⟨dx, bk, ga, kb⟩, p1, p2, h60, h6, q⟩ =>
    unfold t_Reckoning_backwards
    walk_at "s"
    walk_at "1"
    refine ⟨a, _, dx, _, bk, rfl, ga, R.cl, R.back, rfl, ?_⟩
    rcases kb with rfl | ⟨b, rfl, rb⟩
    · rw [if_pos rfl]
      have e1 : (qs.map fnOf).map six = qs := by
        rw [List.map_map]
        exact (List.map_congr_left (g := id) fun w m => six_fn (h6 w m)).trans (List.map_id qs)
      have e2 : towersL qs = ((List.range (qs.length + 1)).map (levelQ qs)).map six := by
        unfold towersL
        rw [List.map_map]
        rfl
      walk_at "s"
      refine turned_all (l := lp) (gs := qs.map fnOf) (e1.symm ▸ p1) (by rw [List.length_map]; omega) (fun P z => ⟨.ref a, rfl, a, _, dx, _, .ref lp, rfl, ga, R.cl, R.prices, rfl, z⟩) (Nat.lt_succ_self 2) fun D1 H1 s1 n1 r1 => ?_
      have eD1 : ((qs.map fnOf).map fun g => six fun i j => g j i) = qs.map turnQ := by
        rw [List.map_map]
        rfl
      rw [eD1] at r1
      have ga1 := s1 _ _ ga
      simp only [gName, List.set_cons_zero, List.set_cons_succ, sFld, tMake]
      walk_at "1"
      refine ⟨a, _, dx, _, .int B, rfl, ga1, R.cl, R.bound, rfl, ?_⟩
      refine turned_all (l := lt) (gs := (List.range (qs.length + 1)).map (levelQ qs)) (e2 ▸ p2.same s1) (by rw [List.length_map, List.length_range]; omega) (fun P z => ⟨.ref a, rfl, a, _, dx, _, .ref lt, rfl, ga1, R.cl, R.towers, rfl, z⟩) (Nat.lt_succ_self 2) fun D2 H2 s2 n2 r2 => ?_
      have eD2 : (((List.range (qs.length + 1)).map (levelQ qs)).map fun g => six fun i j => g j i) = towersL (qs.map turnQ) := by
        unfold towersL
        rw [List.map_map, List.length_map]
        refine List.map_congr_left fun k mk => six_congr fun i j hi hj n => (levelQ_turn k ?_ i j hi hj n).symm
        have := List.mem_range.mp mk
        omega
      rw [eD2] at r2
      have r1 := r1.same s2
      have s12 := s1.trans s2
      refine fun y dy ny nd ne => ?_
      have s3 : Same H2 (upd (upd H2 dy (.own y)) y (.ins (He.ga K "Reckoning") dy [])) := fun b o e => by
        rw [upd_ne (ne_of_none e ny), upd_ne (ne_of_none e nd)]
        exact e
      have gy : upd (upd H2 dy (.own y)) y (.ins (He.ga K "Reckoning") dy []) y = some (.ins (He.ga K "Reckoning") dy []) := upd_same
      generalize upd (upd H2 dy (.own y)) y (.ins (He.ga K "Reckoning") dy []) = H3 at *
      refine ⟨y, dy, B, rfl, rfl, gy, fun H4 o4 g4 => ⟨rfl, ?_⟩⟩
      have s24 : Same H2 H4 := (Off.trans (Same.off s3) o4).same ny
      have s14 := s12.trans s24
      have ga4 := s14 _ _ ga
      have ya : y ≠ a := by rintro rfl; rw [s12 _ _ ga] at ny; cases ny
      refine ⟨a, _, dx, _, rfl, ga4, R.cl, R.back, by show (4 : Nat) < 1000; decide, ?_⟩
      have ep : putF "_backwards" (.ref y) (rkF B (.ref lp) (.ref lt) .non) = rkF B (.ref lp) (.ref lt) (.ref y) := rfl
      rw [ep]
      have o5 : Off a H4 (upd H4 a (.ins (He.ga K "Reckoning") dx (rkF B (.ref lp) (.ref lt) (.ref y)))) := off_upd
      have g5 : upd H4 a (.ins (He.ga K "Reckoning") dx (rkF B (.ref lp) (.ref lt) (.ref y))) a = some (.ins (He.ga K "Reckoning") dx (rkF B (.ref lp) (.ref lt) (.ref y))) := upd_same
      generalize upd H4 a (.ins (He.ga K "Reckoning") dx (rkF B (.ref lp) (.ref lt) (.ref y))) = H5 at *
      have back : RkN0 K H5 y B (qs.map turnQ) := ⟨D1, D2, ⟨dy, _, o5 _ _ ya g4⟩, (r1.same s24).off o5 ga4, (r2.same s24).off o5 ga4⟩
      refine ⟨a, _, dx, _, .ref y, rfl, g5, R.cl, R.back, rfl, ?_⟩
      exact q y H5 (Off.trans (Same.off s14) o5) ⟨dx, _, g5, .inr ⟨y, rfl, back⟩⟩ ((p1.same s14).off o5 ga4) ((p2.same s14).off o5 ga4) back
    · rw [if_neg (by simp)]
      refine ⟨a, _, dx, _, .ref b, rfl, ga, R.cl, R.back, rfl, ?_⟩
      exact q b H Off.refl ⟨dx, _, ga, .inr ⟨b, rfl, rb⟩⟩ p1 p2 rb
end
end U
namespace U
open PySem PySem.Spec PyProof.Rows L2

/-! ### a reckoning by its numbers, whatever it keeps -/
def RkM (K : PySem.W.Frag) (H : Hp) (a : Addr) (B : Int) (qs : List (List Int)) : Prop := ∃ lp lt : Addr, (∃ dx bk, H a = some (.ins (He.ga K "Reckoning") dx (rkF B (.ref lp) (.ref lt) bk)) ∧ Bk K H bk B qs) ∧ PrB K H lp qs ∧ PrB K H lt (towersL qs) ∧ qs.length ≤ 60 ∧ ∀ q ∈ qs, q.length = 6
/-- the levels of a start -/
def Lvls (K : PySem.W.Frag) (H : Hp) (l : Addr) (qs : List (List Int)) (ds : List Nat) : Prop := ∃ cs : List Addr, H l = some (.lst (cs.map V.ref)) ∧ cs.length = ds.length + 1 ∧ ∀ (k : Nat) (c : Addr), cs[k]? = some c → SqT K H c (iV (three (toQ qs ds.reverse k)))
def sp_Reckoning_from_towers (K : PySem.W.Frag) : Sp := sp2 fun x y H Q _ => ∃ a B qs ds, x = .ref a ∧ y = .str (wd ds) ∧ RkM K H a B qs ∧ D3 ds ∧ ds.length ≤ qs.length ∧ ∀ (l : Addr) (H' : Hp), Off a H H' → RkM K H' a B qs → Lvls K H' l (qs.map turnQ) ds → Q (.ref l) H'
def t_Reckoning_from_towers (K : PySem.W.Frag) (E : XK) : TS := (tRet (tMeth (He.ga K "Reckoning") "to_towers" (sp_Reckoning_to_towers K) [] E (tMeth (He.ga K "Reckoning") "backwards" (sp_Reckoning_backwards K) [] E (tVar 0) tNil) (tCons (tVar 1) tNil)))
section
variable {K : PySem.W.Frag} (F : KF K) (R : KR K) {vs : List V} {H : Hp} {Q : VK} {E : XK}
local macro_rules | `(tactic| walk_at "w") => `(tactic| try simp only [turnE, lcT, Snoc, tRet, tRetN, tAndV, tOrV, tNotV, tCB, tCons, tVar, tNil, tC, tOp, tSeq, tAsg, gName, gSub, tIfS, tDrop, tFn, tTup, tLst, tNext, tB, tTest, tNot, tAnd, tOr, tIf, tChain, tUn, rU, tFld, tPart, tNoPart, L2.tSl, tBM, tPar, tPar3, tTruth, tDNewK,
  L2.start, List.map_cons, List.map_nil, List.length_cons, List.length_nil, List.replicate_succ, List.replicate_zero, List.append_nil, List.nil_append, List.cons_append, List.singleton_append, Nat.sub_self, Nat.zero_add, Nat.reduceAdd, Nat.reduceSub,
  List.getElem?_cons_zero, List.getElem?_cons_succ, List.set_cons_zero, List.set_cons_succ, Option.some.injEq, exists_eq_left, exists_eq_left', V.int.injEq, V.bl.injEq, V.str.injEq, V.ref.injEq,
  uAdd_int, uAdd_str, uSub_int, uMul_int, uMul_str, uDiv_int, uMod_int, uPow_int, uLt_int, uLe_int, uGt_int, uGe_int, uIs_non, uNis_non, uIs_bl, uNis_bl, sp1, sp2, sp3, sp4, uEq_int, uEq_str, uNe_int, uNe_str, uSl_str, uLen_str, decide_eq_true_eq])
local macro_rules | `(tactic| walk_at "1") => `(tactic| try simp only [turnE, lcT, Snoc, tRet, tRetN, tAndV, tOrV, tNotV, tCB, tCons, tVar, tNil, tC, tOp, tAsg, gName, gSub, tIfS, tDrop, tFn, tTup, tLst, tNext, tB, tTest, tNot, tAnd, tOr, tIf, tChain, tUn, rU, tFld, tPart, tNoPart, L2.tSl, tBM, tPar, tPar3, tTruth, tDNewK,
  L2.start, List.map_cons, List.map_nil, List.length_cons, List.length_nil, List.replicate_succ, List.replicate_zero, List.append_nil, List.nil_append, List.cons_append, List.singleton_append, Nat.sub_self, Nat.zero_add, Nat.reduceAdd, Nat.reduceSub,
  List.getElem?_cons_zero, List.getElem?_cons_succ, List.set_cons_zero, List.set_cons_succ, Option.some.injEq, exists_eq_left, exists_eq_left', V.int.injEq, V.bl.injEq, V.str.injEq, V.ref.injEq,
  uAdd_int, uAdd_str, uSub_int, uMul_int, uMul_str, uDiv_int, uMod_int, uPow_int, uLt_int, uLe_int, uGt_int, uGe_int, uIs_non, uNis_non, uIs_bl, uNis_bl, sp1, sp2, sp3, sp4, uEq_int, uEq_str, uNe_int, uNe_str, uSl_str, uLen_str, decide_eq_true_eq])
local macro_rules | `(tactic| walk_at "s") => `(tactic| ((try dsimp only [turnE]); with_reducible refine seq_ ?_))

theorem RkM.same {H' : Hp} {a : Addr} {B : Int} {qs : List (List Int)} (e : Same H H') (h : RkM K H a B qs) : RkM K H' a B qs := by
  obtain ⟨lp, lt, ⟨dx, bk, ga, kb⟩, p1, p2, l1, l2⟩ := h
  exact ⟨lp, lt, ⟨dx, bk, e _ _ ga, kb.same e⟩, p1.same e, p2.same e, l1, l2⟩
theorem RkM.n {a : Addr} {B : Int} {qs : List (List Int)} (h : RkM K H a B qs) : RkN K H a B qs := by
  obtain ⟨lp, lt, ⟨dx, bk, ga, kb⟩, p1, p2, l1, l2⟩ := h
  exact ⟨lp, lt, ⟨dx, bk, ga⟩, p1, p2, l2, l1⟩
theorem turn_len {qs : List (List Int)} : ∀ q ∈ qs.map turnQ, q.length = 6 := fun q m => by
  obtain ⟨w, _, rfl⟩ := List.mem_map.mp m
  rfl
include F R in
theorem read_Reckoning_from_towers (h : sp_Reckoning_from_towers K vs H Q E) : t_Reckoning_from_towers K E { nx := fun _ H' => Q .non H', rt := Q } (start ["self", "goals"] vs) H := by
  match vs, h with
  | [_, _], ⟨a, B, qs, ds, rfl, rfl, ⟨lp, lt, ⟨dx, bk, ga, kb⟩, p1, p2, l1, l2⟩, d3, hl, q⟩ =>
    unfold t_Reckoning_from_towers
    walk_at "1"
    refine ⟨.ref a, rfl, a, dx, _, rfl, ga, rfl, a, B, qs, lp, lt, rfl, ⟨dx, bk, ga, kb⟩, p1, p2, l1, l2, fun b H1 o1 ka q1 q2 rb => ?_⟩
    obtain ⟨lp2, lt2, ⟨d2, bk2, gb⟩, r1, r2⟩ := id rb
    refine ⟨b, d2, _, rfl, gb, rfl, .str (wd ds), rfl, ?_⟩
    refine ⟨b, B, qs.map turnQ, ds, rfl, rfl, ⟨lp2, lt2, ⟨d2, bk2, gb⟩, r1, r2, turn_len, by rw [List.length_map]; exact l1⟩, d3, by rw [List.length_map]; exact hl, fun l cs H2 s2 k1 k2 k3 => ?_⟩
    have ka2 : RkM K H1 a B qs := ⟨lp, lt, ka, q1, q2, l1, l2⟩
    exact q l H2 (Off.trans o1 (Same.off s2)) (ka2.same s2) ⟨cs, k1, k2, k3⟩
end
end U
namespace U
open PySem PySem.Spec PyProof.Rows L2

/-! ### the largest crate that moves -/
def firstA (ds es : List Nat) : Option Nat := (List.range ds.length).find? fun k => decide (ds[k]? ≠ es[k]?)
def crV : Option Nat → V
  | none => .non
  | some k => .int (k : Nat)
def sp_first_apart (K : PySem.W.Frag) : Sp := sp2 fun x y H Q _ => ∃ ds es, x = .str (wd ds) ∧ y = .str (wd es) ∧ D3 ds ∧ D3 es ∧ ds.length = es.length ∧ ds.length ≤ 60 ∧ ∀ H', Same H H' → Q (crV (firstA ds es)) H'
def t_first_apart (K : PySem.W.Frag) (E : XK) : TS := (tSeq (tFor (iEnumU K (tCons (tVar 0) tNil)) (gTup K 2 (gCons (gName 2) (gCons (gName 3) gNil))) (tIfS (tAnd (tTest (tOp (uNe K) (tVar 3) (tOp (uIx K) (tVar 1) (tVar 2)))) (tNot (tB (tCB (rAny K) (tCons (tLc (iStr (tVar 3)) (gName 4) tYes (tOp (uIn K false) (tVar 4) (tOp (uIx K) (tVar 1) (tVar 2))) [4]) tNil))))) (tRet (tVar 2)) tNext)) (tRet (tC .non)))
theorem for_enumS {ta : TA} {g : TG} {tb : TS} {D : Ends} {σ : L2.St} {H : Hp} {K : PySem.W.Frag} {z : Str} (ht : ta σ H fun vs H1 => vs = [.str z] ∧ H1 = H) (mono : ∀ R R' : List V → Hp → Prop, (∀ v h, R v h → R' v h) → ta σ H R → ta σ H R') (Pv : Nat → L2.St → Hp → Prop) (h0 : Pv 0 σ H)
    (hs : ∀ i c τ H' T, z.cps[i]? = some c → Pv i τ H' → H' T = none → g (.ref T) τ (upd H' T (.tup [.int (i : Nat), .str ⟨#[c]⟩])) fun ρ H2 => tb (turnE D (Pv (i + 1))) ρ H2) (hd : ∀ τ H', Pv z.cps.size τ H' → D.nx τ H') : tFor (iEnumU K ta) g tb D σ H := by
  refine .inr (mono _ _ (fun v h e => ?_) ht)
  obtain ⟨rfl, rfl⟩ := e
  refine ⟨z, rfl, ?_⟩
  refine ⟨fun i m τ H' => m = z.cps.size - i ∧ (i ≤ z.cps.size ∧ Pv i τ H'), ⟨_, rfl, Nat.zero_le _, h0⟩, ?_⟩
  rintro i m τ H' ⟨rfl, hi, p⟩
  by_cases lt : i < z.cps.size
  · refine .inr ⟨lt, Pv (i + 1), fun σ' H2 p' => ⟨z.cps.size - (i + 1), by omega, rfl, lt, p'⟩, fun v H2 yd => ?_⟩
    obtain ⟨T, c, rfl, nT, hc, rfl⟩ := yd
    exact hs i c τ H' T hc p nT
  · have e : i = z.cps.size := by omega
    subst e
    exact .inl ⟨rfl, hd τ H' p⟩
theorem first_none {ds es : List Nat} (h : ∀ k, k < ds.length → ds[k]? = es[k]?) : firstA ds es = none := by
  unfold firstA
  refine List.find?_eq_none.mpr fun k mk => ?_
  have := List.mem_range.mp mk
  rw [h k this]
  simp
theorem first_some {ds es : List Nat} {i : Nat} (hi : i < ds.length) (n : ds[i]? ≠ es[i]?) (h : ∀ k, k < i → ds[k]? = es[k]?) : firstA ds es = some i := by
  unfold firstA
  refine List.find?_range_eq_some.mpr ⟨by simpa using n, List.mem_range.mpr hi, fun j hj => ?_⟩
  rw [h j hj]
  simp
theorem apart_ab : ∀ d e : Fin 3, d ≠ e → (!(Builtin.Str.occurrences ⟨#[97 + e.val]⟩ ⟨#[97 + d.val]⟩ 0 1 1).isEmpty) = false := by decide +kernel
theorem at_natN {xs : List Nat} {k : Nat} {v : Nat} (h : xs[k]? = some v) : atI xs (k : Int) = some v := by
  have lt := (List.getElem?_eq_some_iff.mp h).1
  unfold atI ixN
  rw [if_pos (Int.natCast_nonneg k), if_pos (Int.ofNat_lt.mpr lt)]
  exact h
section
variable {K : PySem.W.Frag} (F : KF K) (R : KR K) {vs : List V} {H : Hp} {Q : VK} {E : XK}
local macro_rules | `(tactic| walk_at "w") => `(tactic| try simp only [turnE, lcT, Snoc, tRet, tRetN, tAndV, tOrV, tNotV, tCB, tCons, tVar, tNil, tC, tOp, tSeq, tAsg, gName, gSub, tIfS, tDrop, tFn, tTup, tLst, tNext, tB, tTest, tNot, tAnd, tOr, tIf, tChain, tUn, rU, tFld, tPart, tNoPart, L2.tSl, tBM, tPar, tPar3, tTruth, tDNewK,
  L2.start, List.map_cons, List.map_nil, List.length_cons, List.length_nil, List.replicate_succ, List.replicate_zero, List.append_nil, List.nil_append, List.cons_append, List.singleton_append, Nat.sub_self, Nat.zero_add, Nat.reduceAdd, Nat.reduceSub,
  List.getElem?_cons_zero, List.getElem?_cons_succ, List.set_cons_zero, List.set_cons_succ, Option.some.injEq, exists_eq_left, exists_eq_left', V.int.injEq, V.bl.injEq, V.str.injEq, V.ref.injEq,
  uAdd_int, uAdd_str, uSub_int, uMul_int, uMul_str, uDiv_int, uMod_int, uPow_int, uLt_int, uLe_int, uGt_int, uGe_int, uIs_non, uNis_non, uIs_bl, uNis_bl, sp1, sp2, sp3, sp4, uEq_int, uEq_str, uNe_int, uNe_str, uSl_str, uLen_str, decide_eq_true_eq])
local macro_rules | `(tactic| walk_at "1") => `(tactic| try simp only [turnE, lcT, Snoc, tRet, tRetN, tAndV, tOrV, tNotV, tCB, tCons, tVar, tNil, tC, tOp, tAsg, gName, gSub, tIfS, tDrop, tFn, tTup, tLst, tNext, tB, tTest, tNot, tAnd, tOr, tIf, tChain, tUn, rU, tFld, tPart, tNoPart, L2.tSl, tBM, tPar, tPar3, tTruth, tDNewK,
  L2.start, List.map_cons, List.map_nil, List.length_cons, List.length_nil, List.replicate_succ, List.replicate_zero, List.append_nil, List.nil_append, List.cons_append, List.singleton_append, Nat.sub_self, Nat.zero_add, Nat.reduceAdd, Nat.reduceSub,
  List.getElem?_cons_zero, List.getElem?_cons_succ, List.set_cons_zero, List.set_cons_succ, Option.some.injEq, exists_eq_left, exists_eq_left', V.int.injEq, V.bl.injEq, V.str.injEq, V.ref.injEq,
  uAdd_int, uAdd_str, uSub_int, uMul_int, uMul_str, uDiv_int, uMod_int, uPow_int, uLt_int, uLe_int, uGt_int, uGe_int, uIs_non, uNis_non, uIs_bl, uNis_bl, sp1, sp2, sp3, sp4, uEq_int, uEq_str, uNe_int, uNe_str, uSl_str, uLen_str, decide_eq_true_eq])
local macro_rules | `(tactic| walk_at "s") => `(tactic| ((try dsimp only [turnE]); with_reducible refine seq_ ?_))

include F in
theorem read_first_apart (h : sp_first_apart K vs H Q E) : t_first_apart K E { nx := fun _ H' => Q .non H', rt := Q } (start ["starts", "goals", "crate", "places", "place"] vs) H := by
  match vs, h with
  | [_, _], ⟨ds, es, rfl, rfl, d3, e3, same, l60, q⟩ =>
    unfold t_first_apart
    have sz : (wd ds).cps.size = ds.length := wd_length ds
    walk_at "s"
    refine for_enumS (z := wd ds) ⟨.str (wd ds), rfl, rfl, rfl⟩ (fun R R' im h => by obtain ⟨v, e, h⟩ := h; exact ⟨v, e, im _ _ h⟩) (fun i τ H' => (∃ o2 o3 o4, τ = [some (.str (wd ds)), some (.str (wd es)), o2, o3, o4]) ∧ Same H H' ∧ ∀ k, k < i → ds[k]? = es[k]?)
      ⟨⟨_, _, _, rfl⟩, Same.refl _, fun k z => absurd z (Nat.not_lt_zero k)⟩ ?_ ?_
    · rintro i c τ H2 T hc ⟨⟨o2, o3, o4, rfl⟩, s2, al⟩ nT
      obtain ⟨d, hd, rfl⟩ := wd_cp hc
      have li := (List.getElem?_eq_some_iff.mp hd).1
      obtain ⟨e, he⟩ : ∃ e, es[i]? = some e := ⟨_, List.getElem?_eq_getElem (by omega)⟩
      refine pair_in upd_same ?_
      have s3 : Same H (upd H2 T (.tup [.int (i : Nat), .str ⟨#[97 + d]⟩])) := s2.trans (same_new nT)
      generalize upd H2 T (.tup [.int (i : Nat), .str ⟨#[97 + d]⟩]) = H3 at *
      simp only [List.set_cons_zero, List.set_cons_succ]
      walk_at "1"
      have ld := d3 d (List.mem_of_getElem? hd)
      have le := e3 e (List.mem_of_getElem? he)
      have at_e : ∀ {Q2 : VK} {H4 : Hp}, Q2 (.str ⟨#[97 + e]⟩) H4 → uIx K (.str (wd es)) (.int (i : Nat)) H4 Q2 := fun z => by
        refine uIx_str (c := 97 + e) (by rw [wd_length, sizeLine_eq]; omega) (at_natN ?_) z
        unfold wd
        rw [List.getElem?_map, he]
        rfl
      refine at_e ?_
      walk_at "1"
      by_cases de : d = e
      · subst de
        rw [if_neg (by simp), if_neg (by decide)]
        refine ⟨⟨_, _, _, rfl⟩, s3, fun k lk => ?_⟩
        by_cases ek : k = i
        · rw [ek, hd, he]
        · exact al k (by omega)
      · rw [if_pos (by simpa using de)]
        refine tLc_str (z := ⟨#[97 + d]⟩) (tVar_eq rfl) fun D hD => ?_
        refine lc_grow plain_S (fun acc _ => acc = (List.replicate acc.length false).map V.bl) hD (by show 1 ≤ sizeLine; decide) (fun _ _ => trivial) (fun _ _ => rfl) (fun _ _ _ _ _ _ z => z) ?_ ?_
        · intro k x acc H4 Q4 hx s4 hl r go
          have ex : x = .str ⟨#[97 + d]⟩ := by
            match k, hx with
            | 0, hx => cases hx; rfl
          subst ex
          walk_at "1"
          refine at_e ?_
          show Q4 (.bl _) H4
          have off : (!(Builtin.Str.occurrences ⟨#[97 + e]⟩ ⟨#[97 + d]⟩ 0 1 1).isEmpty) = false := apart_ab ⟨d, ld⟩ ⟨e, le⟩ fun z => de (congrArg Fin.val z)
          refine (show Q4 (.bl (!(Builtin.Str.occurrences ⟨#[97 + e]⟩ ⟨#[97 + d]⟩ 0 1 1).isEmpty)) H4 from ?_)
          rw [off]
          refine go _ H4 (Same.refl _) ?_
          rw [List.length_append, List.length_singleton, List.replicate_succ', List.map_append, ← r]
          rfl
        · intro acc H4 hl s4 gD r
          rw [r] at gD
          refine ⟨D, _, rfl, .inl (.inl gD), _, rfl, ?_⟩
          rw [show (List.replicate acc.length false).any id = false from by simp, if_pos (by decide)]
          have := q H4 (s3.trans s4)
          rw [first_some li (by rw [hd, he]; exact fun z => de (Option.some.inj z)) al] at this
          exact this
    · rintro τ H2 ⟨⟨o2, o3, o4, rfl⟩, s2, al⟩
      have := q H2 s2
      rw [first_none fun k lk => al k (by rw [sz]; exact lk)] at this
      exact this
end
end U
namespace U
open PySem PySem.Spec PyProof.Rows L2

/-! ### min of a tuple of numbers -/
def rMinT (K : PySem.W.Frag) : List V → Hp → VK → Prop := fun xs H Q => ∃ (a : Addr) (n : Int) (ns : List Int), xs = [.ref a] ∧ SqT K H a ((n :: ns).map V.int) ∧ Q (.int (ns.foldl min n)) H
theorem call_minT {X : Cx} (hc : X.calm = true) (hu : X.A.units + 64 < cLine) : CallR X (.builtin "min") (rMinT X.K) := by
  intro ps s σ H xs us Q I r h
  obtain ⟨a, n, ns, rfl, hs, q⟩ := h
  obtain ⟨its, rv, ht, _⟩ := I.tuple hs
  rw [Vals.ref1 r]
  have dep : ∀ l : List Int, PyData.depthAll (l.map PyData.int) = 0 := fun l => by
    induction l with
    | nil => simp [PyData.depthAll]
    | cons x t ih => simp [PyData.depthAll, PyData.depth, ih]
  have rd : ReadsAll s.heap its.toArray.toList (((n :: ns)).map PyData.int) [] := by simpa using reads_ints rv
  refine PySem.W.min_tuple_data (x := .int n) (xs := ns.map PyData.int) (I.ok.hd hc) (show s.heap.IsTuple a its.toArray from ht) rd ⟨fun x mx y my => ?_, fun x mx => ?_⟩ (by rw [show (PyData.int n :: ns.map PyData.int) = (n :: ns).map PyData.int from rfl, dep]; omega) (fun i v h' tk bs _ rr k => ?_)
  · obtain ⟨i, _, rfl⟩ := List.mem_map.mp (show x ∈ (n :: ns).map PyData.int from mx)
    obtain ⟨j, _, rfl⟩ := List.mem_map.mp (show y ∈ (n :: ns).map PyData.int from my)
    rfl
  · obtain ⟨i, _, rfl⟩ := List.mem_map.mp (show x ∈ (n :: ns).map PyData.int from mx)
    exact fun z => nomatch z
  · rw [PySem.W.minD_ints] at rr
    cases rr with
    | int _ u => exact ⟨.int _, H, I.kept (t' := tk) k, ⟨u, rfl⟩, q⟩
/-! ### != of two dicts that hold the same -/
end U
namespace U
open PySem PySem.Spec PyProof.Rows L2

/-! ### the least cost between two arrangements -/
def cheapQ (qs : List (List Int)) (ds es : List Nat) : Int := match firstA ds es with
  | none => 0
  | some k => min (bl1 (fnOf ((qs[ds.length - 1 - k]?).getD [])) (toQ qs (ds.drop (k + 1)).reverse (ds.length - 1 - k)) (toQ (qs.map turnQ) (es.drop (k + 1)).reverse (ds.length - 1 - k)) ((ds[k]?).getD 0) ((es[k]?).getD 0))
      (bl2 (fnOf ((qs[ds.length - 1 - k]?).getD [])) (levelQ qs (ds.length - 1 - k)) (toQ qs (ds.drop (k + 1)).reverse (ds.length - 1 - k)) (toQ (qs.map turnQ) (es.drop (k + 1)).reverse (ds.length - 1 - k)) ((ds[k]?).getD 0) ((es[k]?).getD 0))
def sp_Reckoning_cheapest (K : PySem.W.Frag) : Sp := sp3 fun x y z H Q _ => ∃ a B qs ds es, x = .ref a ∧ y = .str (wd ds) ∧ z = .str (wd es) ∧ RkM K H a B qs ∧ D3 ds ∧ D3 es ∧ ds.length = qs.length ∧ es.length = qs.length ∧ ∀ H', Off a H H' → RkM K H' a B qs → Q (.int (cheapQ qs ds es)) H'
def t_Reckoning_cheapest (K : PySem.W.Frag) (E : XK) : TS := (tSeq (tAsg (tFn (sp_first_apart K) E (tCons (tVar 1) (tCons (tVar 2) tNil))) (gName 3)) (tSeq (tIfS (tTest (tOp uIs (tVar 3) (tC .non))) (tRet (tC (.int 0))) tNext) (tSeq (tAsg (tOp uSub (tOp uSub (tCB (uLen K) (tCons (tVar 1) tNil)) (tC (.int 1))) (tVar 3)) (gName 4)) (tSeq (tAsg (tTup (tCons (tOp (uIx K) (tFld K (tVar 0) "prices") (tVar 4)) (tCons (tOp (uIx K) (tFld K (tVar 0) "towers") (tVar 4)) tNil))) (gTup K 2 (gCons (gName 5) (gCons (gName 6) gNil)))) (tSeq (tAsg (tOp (uIx K) (tMeth (He.ga K "Reckoning") "to_towers" (sp_Reckoning_to_towers K) [] E (tVar 0) (tCons (tSl (uSl K) (tVar 1) (tPart (tOp uAdd (tVar 3) (tC (.int 1)))) tNoPart) tNil)) (tUn (rU fun i => .int (-i)) (tC (.int 1)))) (gName 7)) (tSeq (tAsg (tOp (uIx K) (tMeth (He.ga K "Reckoning") "from_towers" (sp_Reckoning_from_towers K) [] E (tVar 0) (tCons (tSl (uSl K) (tVar 2) (tPart (tOp uAdd (tVar 3) (tC (.int 1)))) tNoPart) tNil)) (tUn (rU fun i => .int (-i)) (tC (.int 1)))) (gName 8)) (tRet (tCB (rMin K) (tCons (tLc2 (iStr (tOp (uIx K) (tVar 1) (tVar 3))) (gName 9) tYes (iStr (tOp (uIx K) (tVar 2) (tVar 3))) (gName 10) tYes (tCB (rMinT K) (tCons (tFn (sp_both_lines K) E0 (tCons (tOp uAdd (tVar 9) (tVar 10)) (tCons (tVar 5) (tCons (tVar 6) (tCons (tVar 7) (tCons (tVar 8) tNil)))))) tNil)) [9, 10] [10]) tNil)))))))))
section
variable {K : PySem.W.Frag} (F : KF K) (R : KR K) {vs : List V} {H : Hp} {Q : VK} {E : XK}
local macro_rules | `(tactic| walk_at "w") => `(tactic| try simp only [turnE, lcT, Snoc, tRet, tRetN, tAndV, tOrV, tNotV, tCB, tCons, tVar, tNil, tC, tOp, tSeq, tAsg, gName, gSub, tIfS, tDrop, tFn, tTup, tLst, tNext, tB, tTest, tNot, tAnd, tOr, tIf, tChain, tUn, rU, tFld, tPart, tNoPart, L2.tSl, tBM, tPar, tPar3, tTruth, tDNewK,
  L2.start, List.map_cons, List.map_nil, List.length_cons, List.length_nil, List.replicate_succ, List.replicate_zero, List.append_nil, List.nil_append, List.cons_append, List.singleton_append, Nat.sub_self, Nat.zero_add, Nat.reduceAdd, Nat.reduceSub,
  List.getElem?_cons_zero, List.getElem?_cons_succ, List.set_cons_zero, List.set_cons_succ, Option.some.injEq, exists_eq_left, exists_eq_left', V.int.injEq, V.bl.injEq, V.str.injEq, V.ref.injEq,
  uAdd_int, uAdd_str, uSub_int, uMul_int, uMul_str, uDiv_int, uMod_int, uPow_int, uLt_int, uLe_int, uGt_int, uGe_int, uIs_non, uNis_non, uIs_bl, uNis_bl, sp1, sp2, sp3, sp4, uEq_int, uEq_str, uNe_int, uNe_str, uSl_str, uLen_str, decide_eq_true_eq])
local macro_rules | `(tactic| walk_at "1") => `(tactic| try simp only [turnE, lcT, Snoc, tRet, tRetN, tAndV, tOrV, tNotV, tCB, tCons, tVar, tNil, tC, tOp, tAsg, gName, gSub, tIfS, tDrop, tFn, tTup, tLst, tNext, tB, tTest, tNot, tAnd, tOr, tIf, tChain, tUn, rU, tFld, tPart, tNoPart, L2.tSl, tBM, tPar, tPar3, tTruth, tDNewK,
  L2.start, List.map_cons, List.map_nil, List.length_cons, List.length_nil, List.replicate_succ, List.replicate_zero, List.append_nil, List.nil_append, List.cons_append, List.singleton_append, Nat.sub_self, Nat.zero_add, Nat.reduceAdd, Nat.reduceSub,
  List.getElem?_cons_zero, List.getElem?_cons_succ, List.set_cons_zero, List.set_cons_succ, Option.some.injEq, exists_eq_left, exists_eq_left', V.int.injEq, V.bl.injEq, V.str.injEq, V.ref.injEq,
  uAdd_int, uAdd_str, uSub_int, uMul_int, uMul_str, uDiv_int, uMod_int, uPow_int, uLt_int, uLe_int, uGt_int, uGe_int, uIs_non, uNis_non, uIs_bl, uNis_bl, sp1, sp2, sp3, sp4, uEq_int, uEq_str, uNe_int, uNe_str, uSl_str, uLen_str, decide_eq_true_eq])
local macro_rules | `(tactic| walk_at "s") => `(tactic| ((try dsimp only [turnE]); with_reducible refine seq_ ?_))

theorem firstA_lt {ds es : List Nat} {k : Nat} (h : firstA ds es = some k) : k < ds.length ∧ ds[k]? ≠ es[k]? ∧ ∀ j, j < k → ds[j]? = es[j]? := by
  unfold firstA at h
  obtain ⟨h1, h2, h3⟩ := List.find?_range_eq_some.mp h
  refine ⟨List.mem_range.mp h2, of_decide_eq_true h1, fun j hj => ?_⟩
  have := h3 j hj
  simpa using this
theorem str_one {ds : List Nat} {k d : Nat} (h : ds.length ≤ 60) (hk : ds[k]? = some d) (q : Q (.str (wd [d])) H) : uIx K (.str (wd ds)) (.int (k : Nat)) H Q := by
  have e : ds[k]? = some d := hk
  refine uIx_str (c := 97 + d) (Nat.le_trans (by rw [wd_length]; exact h) (by decide)) ?_ q
  have lt := (List.getElem?_eq_some_iff.mp hk).1
  refine at_natN' ?_
  show (wd ds).cps.toList[k]? = _
  simp [wd, hk]
where
  at_natN' {xs : List Nat} {k : Nat} {v : Nat} (h : xs[k]? = some v) : atI xs (k : Int) = some v := at_natN h
/-- one sign, one turn -/
theorem laps_one {i : Nat} {H0 : Hp} {fin : Hp → Prop} {B : V → Hp → (Hp → Prop) → Prop} (h : ∀ N : Hp → Prop, (∀ H, fin H → N H) → B (.str (pl i)) H0 N) : Laps (Its (wd [i])) H0 fin B := by
  have e : strL (wd [i]) = [V.str (pl i)] := by rw [strL_wd]; rfl
  refine it_plain (plain_S (z := wd [i])) (fun k H => (k = 0 ∧ H = H0) ∨ (k = 1 ∧ fin H)) (.inl ⟨rfl, rfl⟩) (fun _ _ _ => trivial) ?_ ?_
  · rintro k x H hx (⟨rfl, rfl⟩ | ⟨rfl, _⟩)
    · rw [e] at hx
      cases hx
      exact h _ fun H f => .inr ⟨rfl, f⟩
    · rw [e] at hx
      cases hx
  · rintro H (⟨z, _⟩ | ⟨_, f⟩)
    · rw [e] at z
      cases z
    · exact f
include F R in
theorem read_Reckoning_cheapest (h : sp_Reckoning_cheapest K vs H Q E) : t_Reckoning_cheapest K E { nx := fun _ H' => Q .non H', rt := Q } (start ["self", "starts", "goals", "crate", "rest", "prices", "towers", "to_towers", "from_towers", "here", "there"] vs) H := by
  match vs, h with
  | [_, _, _], ⟨a, B, qs, ds, es, rfl, rfl, rfl, hk, d3, e3, ld, le, q⟩ =>
    obtain ⟨lp, lt, ⟨dx, bk, ga, kb⟩, ⟨bs, b1, b2, b3⟩, ⟨ts, c1, c2, c3⟩, h60, h6⟩ := id hk
    unfold t_Reckoning_cheapest
    walk_at "s"
    walk_at "1"
    refine ⟨ds, es, rfl, rfl, d3, e3, by omega, by omega, fun H1 s1 => ?_⟩
    unfold cheapQ at q
    cases hf : firstA ds es with
    | none =>
      rw [hf] at q
      walk_at "1"
      show tSeq _ _ _ _ _
      walk_at "s"
      walk_at "1"
      exact q H1 (Same.off s1) (hk.same s1)
    | some k =>
      rw [hf] at q
      rw [show crV (some k) = V.int ((k : Nat) : Int) from rfl]
      obtain ⟨lk, ndk, _⟩ := firstA_lt hf
      have hd : ds[k]? = some ds[k] := List.getElem?_eq_getElem lk
      have he : es[k]? = some (es[k]'(by omega)) := List.getElem?_eq_getElem (by omega)
      have dlt : ds[k] < 3 := d3 _ (List.getElem_mem lk)
      have elt : es[k]'(by omega) < 3 := e3 _ (List.getElem_mem _)
      rw [hd, he] at ndk
      simp only [hd, he, Option.getD_some] at q
      generalize ds[k] = i at *
      generalize es[k]'(by omega) = j at *
      have nij : i ≠ j := fun z => ndk (by rw [z])
      obtain ⟨r, hr⟩ : ∃ r, r = ds.length - 1 - k := ⟨_, rfl⟩
      rw [← hr] at q
      have lr : r < qs.length := by omega
      have hq : qs[r]? = some qs[r] := List.getElem?_eq_getElem lr
      rw [hq, Option.getD_some] at q
      have q6 : qs[r].length = 6 := h6 _ (List.getElem_mem lr)
      have hb : bs[r]? = some (bs[r]'(by omega)) := List.getElem?_eq_getElem _
      have lts : ts.length = qs.length + 1 := by
        rw [c2]
        unfold towersL
        (rw [List.length_map, List.length_range])
      have ht : ts[r]? = some (ts[r]'(by omega)) := List.getElem?_eq_getElem _
      have sb := b3 r _ _ hb hq
      have st := c3 r _ (six (levelQ qs r)) ht (by
        unfold towersL
        rw [List.getElem?_map, List.getElem?_range (by omega)]
        rfl)
      generalize bs[r]'(by omega) = b at *
      generalize ts[r]'(by omega) = t at *
      generalize qs[r] = w at *
      show tSeq _ _ _ _ _
      walk_at "s"
      walk_at "1"
      rw [if_neg (fun z => by cases z)]
      show tSeq _ _ _ _ _
      walk_at "s"
      walk_at "1"
      refine ⟨by rw [wd_length, sizeLine_eq]; omega, ?_⟩
      walk_at "1"
      rw [wd_length, show (ds.length : Int) - 1 - (k : Int) = (r : Nat) by omega]
      walk_at "s"
      simp only [tAsg, tTup, tCons, tNil]
      walk_at "1"
      refine ⟨a, _, dx, _, .ref lp, rfl, s1 _ _ ga, R.cl, R.prices, rfl, _, _, .inl (.inl (.inl (s1 _ _ b1))), at_nat (by rw [List.getElem?_map, hb]; rfl), ?_⟩
      refine ⟨a, _, dx, _, .ref lt, rfl, s1 _ _ ga, R.cl, R.towers, rfl, _, _, .inl (.inl (.inl (s1 _ _ c1))), at_nat (by rw [List.getElem?_map, ht]; rfl), ?_⟩
      refine ⟨by decide, fun T nT => ?_⟩
      have sT : Same H1 (upd H1 T (.tup [.ref b, .ref t])) := same_new nT
      have gT : upd H1 T (.tup [.ref b, .ref t]) T = some (.tup [.ref b, .ref t]) := upd_same
      have s2 := s1.trans sT
      generalize upd H1 T (.tup [.ref b, .ref t]) = H2 at *
      refine ⟨T, _, rfl, .inl (.inl gT), rfl, un1 (un1 (un0 ?_))⟩
      simp only [List.set_cons_zero, List.set_cons_succ]
      walk_at "s"
      walk_at "1"
      simp only [tMeth]
      walk_at "1"
      refine ⟨a, dx, _, rfl, s2 _ _ ga, rfl, ?_⟩
      walk_at "1"
      rw [show ((k : Nat) : Int) + 1 = ((k + 1 : Nat) : Int) by omega]
      refine ⟨by rw [wd_length, sizeLine_eq]; omega, ?_⟩
      rw [cut_from (ds := ds) (k := k + 1) (by omega)]
      refine ⟨a, B, qs, ds.drop (k + 1), rfl, rfl, (hk.same s2).n, fun x m => d3 x (List.mem_of_mem_drop m), by rw [List.length_drop]; omega, fun l cs H3 s3 gl lc at3 => ?_⟩
      have dl : (ds.drop (k + 1)).length = r := by rw [List.length_drop]; omega
      rw [dl] at lc
      have hcs : cs[r]? = some (cs[r]'(by omega)) := List.getElem?_eq_getElem _
      have u3 := at3 r _ hcs
      generalize cs[r]'(by omega) = c at *
      refine ⟨_, _, .inl (.inl (.inl gl)), at_end (n := r) (by rw [List.length_map, lc]) (by rw [List.getElem?_map, hcs]; rfl), ?_⟩
      have s23 := s2.trans s3
      walk_at "s"
      walk_at "1"
      simp only [tMeth]
      walk_at "1"
      refine ⟨a, dx, _, rfl, s23 _ _ ga, rfl, ?_⟩
      walk_at "1"
      rw [show ((k : Nat) : Int) + 1 = ((k + 1 : Nat) : Int) by omega]
      refine ⟨by rw [wd_length, sizeLine_eq]; omega, ?_⟩
      rw [cut_from (ds := es) (k := k + 1) (by omega)]
      have ga3 := s23 _ _ ga
      refine ⟨a, B, qs, es.drop (k + 1), rfl, rfl, hk.same s23, fun x m => e3 x (List.mem_of_mem_drop m), by rw [List.length_drop]; omega, fun l' H4 o4 k4 lv => ?_⟩
      obtain ⟨cs', gl', lc', at4⟩ := lv
      have el : (es.drop (k + 1)).length = r := by rw [List.length_drop]; omega
      rw [el] at lc'
      have hcs' : cs'[r]? = some (cs'[r]'(by omega)) := List.getElem?_eq_getElem _
      have v3 := at4 r _ hcs'
      generalize cs'[r]'(by omega) = c' at *
      refine ⟨_, _, .inl (.inl (.inl gl')), at_end (n := r) (by rw [List.length_map, lc']) (by rw [List.getElem?_map, hcs']; rfl), ?_⟩
      have sb4 := o4.sqT_ins ga3 (Same.sqT s23 sb)
      have st4 := o4.sqT_ins ga3 (Same.sqT s23 st)
      have u4 := o4.sqT_ins ga3 u3
      have oH : Off a H H4 := Off.trans (Same.off s23) o4
      walk_at "1"
      refine tLc2_of ?_
      refine (show ∃ v, _ ∧ _ from ⟨_, rfl, _, rfl, str_one (by omega) hd ?_⟩)
      refine ⟨wd [i], rfl, fun D nD => laps_one fun N hN => ?_⟩
      have sD : Same H4 (upd H4 D (.lst [])) := same_new nD
      have gD : upd H4 D (.lst []) D = some (.lst []) := upd_same
      generalize upd H4 D (.lst []) = H5 at *
      unfold lc2T
      refine ⟨rfl, ?_⟩
      show tYes _ _ _
      unfold tYes
      dsimp only
      rw [if_pos rfl]
      refine (show ∃ v, _ ∧ _ from ⟨_, rfl, _, rfl, str_one (by omega) he ?_⟩)
      refine ⟨wd [j], rfl, laps_one fun N1 hN1 => ?_⟩
      unfold lc3T
      refine ⟨rfl, ?_⟩
      dsimp only
      rw [if_pos rfl]
      simp only [wipe, gName, List.set_cons_zero, List.set_cons_succ]
      walk_at "1"
      refine ⟨by show 1 + 1 ≤ sizeLine; decide, i, j, b, t, c, c', fnOf w, levelQ qs r, toQ qs (ds.drop (k + 1)).reverse r, toQ (qs.map turnQ) (es.drop (k + 1)).reverse r, rfl, dlt, elt, nij, rfl, rfl, rfl, rfl, by rw [six_fn q6]; exact Same.sqT sD sb4, Same.sqT sD st4, Same.sqT sD u4, Same.sqT sD v3, fun p H6 s6 np gp => ?_⟩
      refine ⟨p, _, [_], rfl, .inl (.inl gp), ?_⟩
      refine ⟨_, s6 _ _ gD, by decide, hN1 _ (hN _ ?_)⟩
      have s46 : Same H4 (upd H6 D (.lst ([] ++ [V.int (List.foldl min (bl1 (fnOf w) (toQ qs (ds.drop (k + 1)).reverse r) (toQ (qs.map turnQ) (es.drop (k + 1)).reverse r) i j) [bl2 (fnOf w) (levelQ qs r) (toQ qs (ds.drop (k + 1)).reverse r) (toQ (qs.map turnQ) (es.drop (k + 1)).reverse r) i j])]))) := (Off.trans (Same.off (sD.trans s6)) off_upd).same nD
      refine ⟨D, [_], rfl, .inl (.inl (by rw [upd_same]; rfl)), Nat.one_pos, fun m hm _ => ?_⟩
      rw [List.mem_singleton.mp hm]
      exact q _ (oH.trans (Same.off s46)) (k4.same s46)
end
end U
namespace U
open PySem PySem.Spec PyProof.Rows L2

/-- refused: no yard, or no arrangement -/
def RefA (K : PySem.W.Frag) (H : Hp) (y x : V) (E : XK) : Prop := YardOr K H y E fun rows => NoArr K H rows.length x E
def RefB (K : PySem.W.Frag) (H : Hp) (y x z : V) (E : XK) : Prop := YardOr K H y E fun rows => NoArr K H rows.length x E ∨ ∃ ds, Arr rows.length x ds ∧ NoArr K H rows.length z E
def sp_check_both (K : PySem.W.Frag) : Sp := sp3 fun y x z H Q E => YardOr K H y E fun rows => NoArr K H rows.length x E ∨ ∃ ds, Arr rows.length x ds ∧ (NoArr K H rows.length z E ∨ ∃ es, Arr rows.length z es ∧ ∀ H', Same H H' → Q .non H')
def sp_largest_moving (K : PySem.W.Frag) : Sp := sp3 fun y x z H Q E => RefB K H y x z E
def sp_least (K : PySem.W.Frag) : Sp := sp3 fun y x z H Q E => RefB K H y x z E
def sp_paper (K : PySem.W.Frag) : Sp := sp3 fun y x z H Q E => RefB K H y x z E
def sp_to_towers (K : PySem.W.Frag) : Sp := sp2 fun y x H Q E => RefA K H y x E
def sp_from_towers (K : PySem.W.Frag) : Sp := sp2 fun y x H Q E => RefA K H y x E
def t_check_both (K : PySem.W.Frag) (E : XK) : TS := (tSeq (tDrop (tFn (sp_check_arrangement K) E (tCons (tVar 0) (tCons (tVar 1) tNil)))) (tDrop (tFn (sp_check_arrangement K) E (tCons (tVar 0) (tCons (tVar 2) tNil)))))
def t_largest_moving (K : PySem.W.Frag) (E : XK) : TS := (tSeq (tDrop (tFn (sp_check_both K) E (tCons (tVar 0) (tCons (tVar 1) (tCons (tVar 2) tNil))))) (tRet (tFn (sp_first_apart K) E (tCons (tVar 1) (tCons (tVar 2) tNil)))))
def t_least (K : PySem.W.Frag) (E : XK) : TS := (tSeq (tDrop (tFn (sp_check_both K) E (tCons (tVar 0) (tCons (tVar 1) (tCons (tVar 2) tNil))))) (tSeq (tAsg (tMeth (He.ga K "Yard") "reckoning" (sp_Yard_reckoning K) [] E (tVar 0) tNil) (gName 3)) (tRet (tMeth (He.ga K "Reckoning") "told" (sp_Reckoning_told K) [] E (tVar 3) (tCons (tMeth (He.ga K "Reckoning") "cheapest" (sp_Reckoning_cheapest K) [] E (tVar 3) (tCons (tVar 1) (tCons (tVar 2) tNil))) tNil)))))
def t_paper (K : PySem.W.Frag) (E : XK) : TS := (tSeq (tDrop (tFn (sp_check_both K) E (tCons (tVar 0) (tCons (tVar 1) (tCons (tVar 2) tNil))))) (tSeq (tAsg (tMeth (He.ga K "Yard") "reckoning" (sp_Yard_reckoning K) [] E (tVar 0) tNil) (gName 3)) (tRet (tTup (tCons (tLc (iSeq K (tFld K (tVar 3) "towers")) (gName 4) tYes (tMeth (He.ga K "Reckoning") "named" (sp_Reckoning_named K) [] E0 (tVar 3) (tCons (tC (.ref (He.ga K "WAYS"))) (tCons (tVar 4) tNil))) [4]) (tCons (tLc (iSeq K (tMeth (He.ga K "Reckoning") "to_towers" (sp_Reckoning_to_towers K) [] E (tVar 3) (tCons (tVar 1) tNil))) (gName 5) tYes (tMeth (He.ga K "Reckoning") "named" (sp_Reckoning_named K) [] E0 (tVar 3) (tCons (tC (.ref (He.ga K "PLACES"))) (tCons (tVar 5) tNil))) [5]) (tCons (tLc (iSeq K (tMeth (He.ga K "Reckoning") "from_towers" (sp_Reckoning_from_towers K) [] E (tVar 3) (tCons (tVar 2) tNil))) (gName 5) tYes (tMeth (He.ga K "Reckoning") "named" (sp_Reckoning_named K) [] E0 (tVar 3) (tCons (tC (.ref (He.ga K "PLACES"))) (tCons (tVar 5) tNil))) [5]) tNil)))))))
def t_to_towers (K : PySem.W.Frag) (E : XK) : TS := (tSeq (tDrop (tFn (sp_check_arrangement K) E (tCons (tVar 0) (tCons (tVar 1) tNil)))) (tSeq (tAsg (tMeth (He.ga K "Yard") "reckoning" (sp_Yard_reckoning K) [] E (tVar 0) tNil) (gName 2)) (tRet (tMeth (He.ga K "Reckoning") "named" (sp_Reckoning_named K) [] E (tVar 2) (tCons (tC (.ref (He.ga K "PLACES"))) (tCons (tOp (uIx K) (tMeth (He.ga K "Reckoning") "to_towers" (sp_Reckoning_to_towers K) [] E (tVar 2) (tCons (tVar 1) tNil)) (tUn (rU fun i => .int (-i)) (tC (.int 1)))) tNil))))))
def t_from_towers (K : PySem.W.Frag) (E : XK) : TS := (tSeq (tDrop (tFn (sp_check_arrangement K) E (tCons (tVar 0) (tCons (tVar 1) tNil)))) (tSeq (tAsg (tMeth (He.ga K "Yard") "reckoning" (sp_Yard_reckoning K) [] E (tVar 0) tNil) (gName 2)) (tRet (tMeth (He.ga K "Reckoning") "named" (sp_Reckoning_named K) [] E (tVar 2) (tCons (tC (.ref (He.ga K "PLACES"))) (tCons (tOp (uIx K) (tMeth (He.ga K "Reckoning") "from_towers" (sp_Reckoning_from_towers K) [] E (tVar 2) (tCons (tVar 1) tNil)) (tUn (rU fun i => .int (-i)) (tC (.int 1)))) tNil))))))
section
variable {K : PySem.W.Frag} (F : KF K) (R : KR K) {vs : List V} {H : Hp} {Q : VK} {E : XK}
local macro_rules | `(tactic| walk_at "w") => `(tactic| try simp only [turnE, lcT, Snoc, tRet, tRetN, tAndV, tOrV, tNotV, tCB, tCons, tVar, tNil, tC, tOp, tSeq, tAsg, gName, gSub, tIfS, tDrop, tFn, tTup, tLst, tNext, tB, tTest, tNot, tAnd, tOr, tIf, tChain, tUn, rU, tFld, tPart, tNoPart, L2.tSl, tBM, tPar, tPar3, tTruth, tDNewK,
  L2.start, List.map_cons, List.map_nil, List.length_cons, List.length_nil, List.replicate_succ, List.replicate_zero, List.append_nil, List.nil_append, List.cons_append, List.singleton_append, Nat.sub_self, Nat.zero_add, Nat.reduceAdd, Nat.reduceSub,
  List.getElem?_cons_zero, List.getElem?_cons_succ, List.set_cons_zero, List.set_cons_succ, Option.some.injEq, exists_eq_left, exists_eq_left', V.int.injEq, V.bl.injEq, V.str.injEq, V.ref.injEq,
  uAdd_int, uAdd_str, uSub_int, uMul_int, uMul_str, uDiv_int, uMod_int, uPow_int, uLt_int, uLe_int, uGt_int, uGe_int, uIs_non, uNis_non, uIs_bl, uNis_bl, sp1, sp2, sp3, sp4, uEq_int, uEq_str, uNe_int, uNe_str, uSl_str, uLen_str, decide_eq_true_eq])
local macro_rules | `(tactic| walk_at "1") => `(tactic| try simp only [turnE, lcT, Snoc, tRet, tRetN, tAndV, tOrV, tNotV, tCB, tCons, tVar, tNil, tC, tOp, tAsg, gName, gSub, tIfS, tDrop, tFn, tTup, tLst, tNext, tB, tTest, tNot, tAnd, tOr, tIf, tChain, tUn, rU, tFld, tPart, tNoPart, L2.tSl, tBM, tPar, tPar3, tTruth, tDNewK,
  L2.start, List.map_cons, List.map_nil, List.length_cons, List.length_nil, List.replicate_succ, List.replicate_zero, List.append_nil, List.nil_append, List.cons_append, List.singleton_append, Nat.sub_self, Nat.zero_add, Nat.reduceAdd, Nat.reduceSub,
  List.getElem?_cons_zero, List.getElem?_cons_succ, List.set_cons_zero, List.set_cons_succ, Option.some.injEq, exists_eq_left, exists_eq_left', V.int.injEq, V.bl.injEq, V.str.injEq, V.ref.injEq,
  uAdd_int, uAdd_str, uSub_int, uMul_int, uMul_str, uDiv_int, uMod_int, uPow_int, uLt_int, uLe_int, uGt_int, uGe_int, uIs_non, uNis_non, uIs_bl, uNis_bl, sp1, sp2, sp3, sp4, uEq_int, uEq_str, uNe_int, uNe_str, uSl_str, uLen_str, decide_eq_true_eq])
local macro_rules | `(tactic| walk_at "s") => `(tactic| ((try dsimp only [turnE]); with_reducible refine seq_ ?_))

theorem NoArr.same {H H' : Hp} {n : Nat} {x : V} (e : Same H H') (h : NoArr K H n x E) : NoArr K H' n x E := by
  obtain ⟨b, h1, h2, h3, h4⟩ := h
  exact ⟨b, h1.same e, h2, h3, Rz.same e h4⟩
theorem RefA.chk {y x : V} (h : RefA K H y x E) : sp_check_arrangement K [y, x] H Q E :=
  chk_arr (k := fun _ _ => False) (YardOr.to h id fun _ _ _ _ g => .inr g) fun _ _ _ _ _ _ z => z.elim
theorem RefB.chk {y x z : V} (h : RefB K H y x z E) : sp_check_both K [y, x, z] H Q E :=
  YardOr.to h id fun _ _ _ _ g => g.elim .inl fun ⟨ds, a, b⟩ => .inr ⟨ds, a, .inl b⟩
include F in
theorem read_check_both (h : sp_check_both K vs H Q E) : t_check_both K E { nx := fun _ H' => Q .non H', rt := Q } (start ["yard", "start", "goal"] vs) H := by
  match vs, h with
  | [y, x, z], h =>
    unfold t_check_both
    walk_at "s"
    walk_at "1"
    refine chk_arr3 (k := fun rows ds => NoArr K H rows.length z E ∨ ∃ es, Arr rows.length z es ∧ ∀ H', Same H H' → Q .non H') h fun p rows ds ey hy a k H1 s1 => ?_
    subst ey
    walk_at "1"
    refine chk_arr3 (k := fun rows es => ∀ H', Same H H' → Q .non H') (yardOr_of F (hy.same s1) ?_) fun _ _ _ _ _ _ q H2 s2 => q H2 (s1.trans s2)
    rcases k with k | ⟨es, a2, q⟩
    · exact .inl (k.same s1)
    · exact .inr ⟨es, a2, q⟩
theorem read_largest_moving (h : sp_largest_moving K vs H Q E) : t_largest_moving K E { nx := fun _ H' => Q .non H', rt := Q } (start ["yard", "start", "goal"] vs) H := by
  match vs, h with
  | [y, x, z], h =>
    unfold t_largest_moving
    walk_at "s"
    walk_at "1"
    exact h.chk
theorem read_least (h : sp_least K vs H Q E) : t_least K E { nx := fun _ H' => Q .non H', rt := Q } (start ["yard", "start", "goal", "reckoning"] vs) H := by
  match vs, h with
  | [y, x, z], h =>
    unfold t_least
    walk_at "s"
    walk_at "1"
    exact h.chk
theorem read_paper (h : sp_paper K vs H Q E) : t_paper K E { nx := fun _ H' => Q .non H', rt := Q } (start ["yard", "start", "goal", "reckoning", "towers", "level"] vs) H := by
  match vs, h with
  | [y, x, z], h =>
    unfold t_paper
    walk_at "s"
    walk_at "1"
    exact h.chk
theorem read_to_towers (h : sp_to_towers K vs H Q E) : t_to_towers K E { nx := fun _ H' => Q .non H', rt := Q } (start ["yard", "start", "reckoning"] vs) H := by
  match vs, h with
  | [y, x], h =>
    unfold t_to_towers
    walk_at "s"
    walk_at "1"
    exact h.chk
theorem read_from_towers (h : sp_from_towers K vs H Q E) : t_from_towers K E { nx := fun _ H' => Q .non H', rt := Q } (start ["yard", "goal", "reckoning"] vs) H := by
  match vs, h with
  | [y, x], h =>
    unfold t_from_towers
    walk_at "s"
    walk_at "1"
    exact h.chk
end
end U
namespace U
open PySem PySem.Spec PyProof.Rows L2

/-! ### list comprehensions of three clauses: one rule for a clause's loop, taken three times -/
/-- what stands between a clause's store and its next turn -/
def CTurn (e : Expr) (i : Nat) (it acc : Value) (env : Env) (p : Pos) (t : Expr) (ifs : List Expr) (k : Bool → Sem Fin) : Prop :=
  compTurn e i it acc env = (standAt p >>= fun _ => pyNext it >>= fun r => match r with
    | none => pure (.done .next)
    | some v => letOwnedTupleGo t it v >>= fun _ => assign t env v >>= fun _ => (forIn ifs true fun c r => if r = true then do let ok ← isTrue c env (eval c env); pure (ForInStep.yield ok) else pure (ForInStep.yield r)) >>= k)
def TurnsTo (c : Code) (P : Shared → Prop) (fin : Fin) (s : Shared) : Prop := match fin with
  | .done _ => False
  | .again c' => c' = c ∧ P s
/-- the reading of a clause: rd behind its tests -/
def CLap (J : It) (g : TG) (tt : TT) (vs : List Nat) (rd : L2.St → Hp → (Hp → Prop) → Prop) (σ : L2.St) (H : Hp) (N : Hp → Prop) : Prop :=
  ∃ W : Nat → Nat → Hp → Prop, (∃ m, W 0 m H) ∧ ∀ j k H, W j k H → (J.stop j H ∧ N H) ∨ (J.go j H ∧ ∃ Nx : Hp → Prop, (∀ H', Nx H' → ∃ k', k' < k ∧ W (j + 1) k' H') ∧
    ∀ x H', J.yld j H x H' → g x (wipe σ vs) H' fun τ H5 => wipe τ vs = wipe σ vs ∧ tt τ H5 fun b H6 => if b = true then rd τ H6 Nx else Nx H6)
/-- the slots of a clause's turn, as far as the next turn wants them -/
def Keeps (vs : List Nat) (τ τ' : L2.St) : Prop := τ'.length = τ.length ∧ ∀ (j : Nat) v, (wipe τ vs)[j]? = some (some v) → τ'[j]? = some (some v)
theorem Keeps.refl (vs : List Nat) (τ : L2.St) : Keeps vs τ τ := ⟨rfl, fun _ _ e => (wipe_some e).1⟩
section
variable {B : Cx} {elt t : Expr} {gens : List Comprehension} {scope : Scope} {pos p : Pos} {i : Nat} {ifs : List Expr} {k : Bool → Sem Fin} {it : Addr} {acc : Value} {fp : List Addr} {tn : Nat → Heap → Prop} {J : It} {g : TG} {tt : TT} {vs : List Nat}
  {rd : L2.St → Hp → (Hp → Prop) → Prop} {pins : List (Addr × Obj)} {σ : L2.St} {H : Hp} {s : Shared} {N : Hp → Prop} {R : Result → Shared → Prop}
theorem loop_walk (hc : B.calm = true) (hT : CTurn (.ListComp elt gens scope pos) i (.ref it) acc B.env p t ifs k) (hk : k false = again (.compLoop (.ListComp elt gens scope pos) i (.ref it) acc B.env))
    (pg : PG B t g) (pt : PTs B ifs tt) (T : Turn B.prog B.w B.K t J fp it tn) (hxe : B.xe = fun _ _ => False) (I : Inv B pins σ H s) (st : tn 0 s.heap) (nf : ∀ b ∈ fp, FpOk B pins H b) (L : CLap J g tt vs rd σ H N)
    (body : ∀ (h0 : Heap) (τ : L2.St) (H' : Hp) (s' : Shared) (Nx : Hp → Prop) (P : Shared → Prop), Inv B (pins ++ pinsAt fp h0) τ H' s' → rd τ H' Nx →
      (∀ τ' H2 s2, Inv B (pins ++ pinsAt fp h0) τ' H2 s2 → Keeps vs τ τ' → Nx H2 → P s2) → wpAny (model B.prog B.w) B.A (k true) (TurnsTo (.compLoop (.ListComp elt gens scope pos) i (.ref it) acc B.env) P) (fun _ _ => False) s')
    (hR : ∀ H' s', Inv B pins (wipe σ vs) H' s' → N H' → R (.ok .next) s') : codeAny (model B.prog B.w) B.A (.compLoop (.ListComp elt gens scope pos) i (.ref it) acc B.env) R s := by
  obtain ⟨W, ⟨m0, w0⟩, lap⟩ := L
  have fine : ∀ {H' : Hp}, (∀ b ∈ fp, H' b = none) → ∀ b ∈ fp, FpOk B pins H' b := fun n b hb => ⟨n b hb, (nf b hb).2⟩
  refine codeAny_loop rfl (fun n s' => ∃ j H', (Inv B pins (wipe σ vs) H' s' ∧ tn j s'.heap) ∧ ((∀ b ∈ fp, H' b = none) ∧ W j n H')) ?_ m0 ⟨0, H, ⟨I.weak (wipe_length _ _) (fun _ _ e => (wipe_some e).1), st⟩, fun b hb => (nf b hb).1, w0⟩
  rintro n s1 ⟨j, H1, ⟨I1, st1⟩, n1, w1⟩
  show wpAny _ B.A ((compTurn (.ListComp elt gens scope pos) i (.ref it) acc B.env).onRaise (fun x => do noteFrame x B.env; theTreesLotGoes x)) _ _ s1
  refine wpAny_noted (wpAny_mono (Q := fun fin s' => match fin with | .done f => R (.ok f) s' | .again c' => c' = .compLoop (.ListComp elt gens scope pos) i (.ref it) acc B.env ∧ ∃ m, m < n ∧ ∃ j H', (Inv B pins (wipe σ vs) H' s' ∧ tn j s'.heap) ∧ ((∀ b ∈ fp, H' b = none) ∧ W j m H')) (E := fun _ _ => False) ?_ (fun _ _ z => z) fun _ _ z => False.elim z)
  rw [hT]
  (refine wpAny_bind (wpAny_standAt (wpAny_bind ?_)))
  rcases lap j n H1 w1 with ⟨stop, nH⟩ | ⟨go, Nx, hNx, step⟩
  · refine thnF (T.done B rfl rfl rfl hc j pins s1 _ H1 _ I1 (fine n1) st1 stop) fun r s2 ⟨hr, I2⟩ => ?_
    subst hr
    exact wpAny_pure (hR H1 s2 I2 nH)
  · refine thnF (T.item B rfl rfl rfl hc j pins s1 _ H1 _ I1 (fine n1) st1 go) fun r s2 ⟨u, hr, h2⟩ => ?_
    subst hr
    refine wpAny_bind (thnF h2 fun _ s3 ⟨x, H3, I3, r3, y3, st3, n3⟩ => ?_)
    have pin3 := I3.pinned (fine n3) (T.obj _ _ st3)
    have h4 := pg.run _ s3 _ H3 x u _ pin3 r3 (step x H3 y3)
    rw [hxe] at h4
    refine wpAny_bind (thnF h4 fun _ s4 ⟨τ, H4, I4, hw, q4⟩ => ?_)
    have h5 := pt.run _ s4 τ H4 _ I4 q4
    rw [hxe] at h5
    refine wpAny_bind (thnF h5 fun ok s5 ⟨H5, I5, q5⟩ => ?_)
    have next : ∀ τ' H' s', Inv B (pins ++ pinsAt fp s3.heap) τ' H' s' → Keeps vs τ τ' → Nx H' → ∃ m, m < n ∧ ∃ j H', (Inv B pins (wipe σ vs) H' s' ∧ tn j s'.heap) ∧ ((∀ b ∈ fp, H' b = none) ∧ W j m H') := fun τ' H' s' I' kp nx => by
      obtain ⟨m', lt, w'⟩ := hNx H' nx
      have held : ∀ b ∈ fp, ∀ o, s3.heap.get? b = some o → s'.heap.get? b = some o ∧ H' b = none := fun b hb o e =>
        And.imp id And.left (I'.pin (b, o) (List.mem_append_right _ (List.mem_append_right _ (mem_pinsAt hb e))))
      refine ⟨m', lt, j + 1, H', ⟨(I'.unpinned (pins := pins)).weak ?_ fun a v e => ?_, T.keep _ _ _ st3 fun b hb o e => (held b hb o e).1⟩, fun b hb => ?_, w'⟩
      · rw [kp.1, ← wipe_length τ vs, hw]
      · exact kp.2 a v (hw ▸ e)
      · obtain ⟨o, e, _⟩ := T.obj _ _ st3 b hb
        exact (held b hb o e).2
    cases ok with
    | false =>
      rw [hk]
      exact wpAny_pure ⟨rfl, next τ H5 s5 I5 (Keeps.refl _ _) q5⟩
    | true =>
      refine wpAny_mono (body s3.heap τ H5 s5 Nx _ I5 q5 next) (fun fin s6 q6 => ?_) fun _ _ z => z
      cases fin with
      | done f => exact q6.elim
      | again c' => exact q6
/-- the last clause hands its item over -/
theorem emit_body {D : Addr} {te : TE} (hxe : B.xe = fun _ _ => False) (pe : PE B elt te)
    (hK : k true = ((do let _ ← call (.builtin "list.append") [.ref D, ← eval elt B.env]) >>= fun _ => again (.compLoop (.ListComp elt gens scope pos) i (.ref it) (.ref D) B.env)))
    (pl : List (Addr × Obj)) (τ : L2.St) (H' : Hp) (s' : Shared) (Nx : Hp → Prop) (P : Shared → Prop) (I : Inv B pl τ H' s') (q : te τ H' fun y H7 => ∃ acc, H7 D = some (.lst acc) ∧ acc.length < sizeLine ∧ Nx (upd H7 D (.lst (acc ++ [y]))))
    (nx : ∀ τ' H2 s2, Inv B pl τ' H2 s2 → Keeps vs τ τ' → Nx H2 → P s2) : wpAny (model B.prog B.w) B.A (k true) (TurnsTo (.compLoop (.ListComp elt gens scope pos) i (.ref it) (.ref D) B.env) P) (fun _ _ => False) s' := by
  rw [hK]
  have h := pe.run pl s' τ H' _ I q
  rw [hxe] at h
  refine wpAny_bind (wpAny_bind (thnF h fun z s1 ⟨y, H1, I1, r1, acc, hD, few, n1⟩ => ?_))
  exact wpAny_bind (app_ok I1 hD few r1 fun s2 I2 => wpAny_pure (wpAny_pure ⟨rfl, nx τ _ s2 I2 (Keeps.refl _ _) n1⟩))
/-- a clause behind another one begins -/
theorem clause_start {e1 : Expr} {t1 : Expr} {ifs1 : List Expr} {A : Around} {prog : Program} {w : World} {it1 : Value} {env : Env} (hg : gens[i]? = some ⟨t1, e1, ifs1, 0⟩)
    (h0 : codeAny (model prog w) A (.compLoop (.ListComp elt gens scope pos) i it1 acc env) R s)
    (h : wpAny (model prog w) A (pyIter it1) (fun it' s' => codeAny (model prog w) A (.compLoop (.ListComp elt gens scope pos) i it' acc env) R s') (notedBy (model prog w) A env fun x s' => R (.error x) s') s) :
    codeAny (model prog w) A (.compStart (.ListComp elt gens scope pos) i it1 acc env) R s := by
  refine codeAny_of_tree ?_
  show wpAny _ _ ((compStart (.ListComp elt gens scope pos) i it1 acc env).onRaise (fun x => do noteFrame x env; standAt theWindowsPlace)) _ _ s
  refine wpAny_notedAt ?_
  unfold compStart
  have hc : (clausesOf (.ListComp elt gens scope pos))[i]? = some ⟨t1, e1, ifs1, 0⟩ := hg
  rw [hc]
  (show wpAny _ _ (ask >>= _) _ _ s)
  (refine wpAny_bind (wpAny_askSetting (wpAny_ite ?_)))
  split
  · first
      | exact wpAny_bind (wpAny_pure (wpAny_pure ⟨rfl, h0⟩))
      | exact wpAny_pure ⟨rfl, h0⟩
  · (refine wpAny_bind (wpAny_rule ?_))
    refine wpAny_bind (wpAny_standAt (wpAny_bind (wpAny_mono h (fun it' s' h' => wpAny_pure ⟨rfl, h'⟩) fun _ _ x => x)))
theorem wipe_keeps {vs vs1 : List Nat} (h : ∀ v ∈ vs1, v ∈ vs) (τ : L2.St) : Keeps vs τ (wipe τ vs1) := ⟨wipe_length _ _, fun j v e => by
  (obtain ⟨e1, e2⟩ := wipe_some e)
  rw [wipe_out fun z => e2 (h j z)]
  exact e1⟩
/-- a clause ahead of another one walks it -/
theorem mid_body {D : Addr} {t1 e1 : Expr} {ifs1 : List Expr} {wi1 : TI} {g1 : TG} {tt1 : TT} {vs1 : List Nat} {rd1 : L2.St → Hp → (Hp → Prop) → Prop} (hxe : B.xe = fun _ _ => False) (hvs : ∀ v ∈ vs1, v ∈ vs) (hg : gens[i + 1]? = some ⟨t1, e1, ifs1, 0⟩) (pi : PI B t1 e1 wi1) (hs : ∀ x, foldedSetIterable e1 B.env x = pure x)
    (hK : k true = (eval e1 B.env >>= fun x => standAt e1.pos >>= fun _ => foldedSetIterable e1 B.env x >>= fun x => holding [x] (pyIter x) >>= fun it1 => runOwn (.compStart (.ListComp elt gens scope pos) (i + 1) it1 (.ref D) B.env) B.env >>= fun _ => again (.compLoop (.ListComp elt gens scope pos) i (.ref it) (.ref D) B.env)))
    (inner : ∀ (pl : List (Addr × Obj)) (τ : L2.St) (H1 : Hp) (s1 : Shared) (it1 : Addr) (fp1 : List Addr) (tn1 : Nat → Heap → Prop) (J1 : It) (N1 : Hp → Prop) (R1 : Result → Shared → Prop), Inv B pl τ H1 s1 → Turn B.prog B.w B.K t1 J1 fp1 it1 tn1 → tn1 0 s1.heap → (∀ b ∈ fp1, FpOk B pl H1 b) → CLap J1 g1 tt1 vs1 rd1 τ H1 N1 →
      (∀ H2 s2, Inv B pl (wipe τ vs1) H2 s2 → N1 H2 → R1 (.ok .next) s2) → codeAny (model B.prog B.w) B.A (.compLoop (.ListComp elt gens scope pos) (i + 1) (.ref it1) (.ref D) B.env) R1 s1)
    (pl : List (Addr × Obj)) (τ : L2.St) (H' : Hp) (s' : Shared) (Nx : Hp → Prop) (P : Shared → Prop) (I : Inv B pl τ H' s') (q : wi1 τ H' fun J1 H4 => CLap J1 g1 tt1 vs1 rd1 τ H4 Nx)
    (nx : ∀ τ' H2 s2, Inv B pl τ' H2 s2 → Keeps vs τ τ' → Nx H2 → P s2) : wpAny (model B.prog B.w) B.A (k true) (TurnsTo (.compLoop (.ListComp elt gens scope pos) i (.ref it) (.ref D) B.env) P) (fun _ _ => False) s' := by
  rw [hK]
  have h := pi.run pl s' τ H' _ I q
  rw [hxe] at h
  refine wpAny_bind (thnF h fun x s1 hx => wpAny_bind (wpAny_standAt (wpAny_bind (wpAny_of_eq (hs x) (wpAny_bind (wpAny_holding (thnF hx fun itv s2 h2 => ?_)))))))
  obtain ⟨it1, fp1, tn1, J1, H2, rfl, I2, T1, st2, f2, L1⟩ := h2
  have loop : codeAny (model B.prog B.w) B.A (.compLoop (.ListComp elt gens scope pos) (i + 1) (.ref it1) (.ref D) B.env) (fun r s3 => match r with | .ok _ => P s3 | .error _ => False) s2 :=
    inner pl τ H2 s2 it1 fp1 tn1 J1 Nx _ I2 T1 st2 f2 L1 fun H3 s3 I3 n3 => nx _ H3 s3 I3 (wipe_keeps hvs τ) n3
  (refine wpAny_bind (wpAny_runOwn ?_))
  rw [Around.mark_none]
  refine codeAny_mono (clause_start hg loop (T1.self B.A 0 _ _ _ st2 loop)) fun r s3 hr => ?_
  cases r with
  | ok f => exact wpAny_pure ⟨rfl, hr⟩
  | error e => exact hr.elim
end
/-- behind the tests of a clause ahead of another one -/
def kMid (e : Expr) (i : Nat) (it acc : Value) (env : Env) (e1 : Expr) (ok : Bool) : Sem Fin :=
  if ok = true then (eval e1 env >>= fun x => standAt e1.pos >>= fun _ => foldedSetIterable e1 env x >>= fun x => holding [x] (pyIter x) >>= fun it1 => runOwn (.compStart e (i + 1) it1 acc env) env >>= fun _ => again (.compLoop e i it acc env)) else again (.compLoop e i it acc env)
def kEnd (e : Expr) (i : Nat) (it acc : Value) (env : Env) (elt : Expr) (ok : Bool) : Sem Fin :=
  if ok = true then ((do let _ ← call (.builtin "list.append") [acc, ← eval elt env]) >>= fun _ => again (.compLoop e i it acc env)) else again (.compLoop e i it acc env)
section
variable {elt t0 i0 t1 i1 t2 i2 : Expr} {f0 f1 f2 : List Expr} {scope : Scope} {pos : Pos} {it acc : Value} {env : Env}
theorem turn3_0 : CTurn (.ListComp elt [⟨t0, i0, f0, 0⟩, ⟨t1, i1, f1, 0⟩, ⟨t2, i2, f2, 0⟩] scope pos) 0 it acc env i0.pos t0 f0 (kMid (.ListComp elt [⟨t0, i0, f0, 0⟩, ⟨t1, i1, f1, 0⟩, ⟨t2, i2, f2, 0⟩] scope pos) 0 it acc env i1) := by
  unfold CTurn kMid
  rfl
theorem turn3_1 : CTurn (.ListComp elt [⟨t0, i0, f0, 0⟩, ⟨t1, i1, f1, 0⟩, ⟨t2, i2, f2, 0⟩] scope pos) 1 it acc env i1.pos t1 f1 (kMid (.ListComp elt [⟨t0, i0, f0, 0⟩, ⟨t1, i1, f1, 0⟩, ⟨t2, i2, f2, 0⟩] scope pos) 1 it acc env i2) := by
  unfold CTurn kMid
  rfl
theorem turn3_2 : CTurn (.ListComp elt [⟨t0, i0, f0, 0⟩, ⟨t1, i1, f1, 0⟩, ⟨t2, i2, f2, 0⟩] scope pos) 2 it acc env i2.pos t2 f2 (kEnd (.ListComp elt [⟨t0, i0, f0, 0⟩, ⟨t1, i1, f1, 0⟩, ⟨t2, i2, f2, 0⟩] scope pos) 2 it acc env elt) := by
  unfold CTurn kEnd
  rfl
end
section
variable {X : Cx} {pins : List (Addr × Obj)} {σ : L2.St} {H : Hp} {s : Shared} -- both
/-- the block of a list comprehension round its first clause's loop -/
theorem block_core {Q : VK} {elt tg iter : Expr} {ifs : List Expr} {rest : List Comprehension} {scope : Scope} {own : List (Str × Nat)} {pos pos' : Pos} {wi : TI} {Rd : It → Addr → Hp → Prop} {use : Option (Value → Sem Unit)} {Qf : Value → Shared → Prop}
    (hN : X.N.Nodup) (I : Inv X pins σ H s) (hi : PI X tg iter wi) (ok : BlkOk X.N X.env.scope scope own) (hs : ∀ x, foldedSetIterable iter X.env x = pure x)
    (h : wi σ H fun J H1 => ∀ D, H1 D = none → Rd J D (upd H1 D (.lst [])))
    (loop : ∀ (J : It) (D : Addr) (s3 s4 : Shared) (H3 : Hp) (C it : Addr) (cl : List (Str × Addr)) (fp : List Addr) (tn : Nat → Heap → Prop) (R : Result → Shared → Prop), Inv (X.blk s3 H3 scope (compEnvC scope cl C X.env) fp) [] (wipe σ (own.map (·.2))) H3 s4 → Turn X.prog X.w X.K tg J fp it tn → tn 0 s4.heap →
      (∀ b ∈ fp, FpOk (X.blk s3 H3 scope (compEnvC scope cl C X.env) fp) [] H3 b) → Rd J D H3 → (∀ σ' H' s', Inv (X.blk s3 H3 scope (compEnvC scope cl C X.env) fp) [] σ' H' s' → Q (.ref D) H' → R (.ok .next) s') →
      codeAny (model X.prog X.w) X.A (.compLoop (.ListComp elt (⟨tg, iter, ifs, 0⟩ :: rest) scope pos) 0 (.ref it) (.ref D) (compEnvC scope cl C X.env)) R s4)
    (hRR : ∀ D C s' m H', Inv X pins σ H' s' → Q (.ref D) H' → s'.heap.Ns C m → FpOk X pins H' C → compPost (model X.prog X.w) X.A X.xe use Qf (.ref D) C (.ok .next) s') -- reached
    :
    wpAny (model X.prog X.w) X.A (comprehension (.ListComp elt (⟨tg, iter, ifs, 0⟩ :: rest) scope pos) scope X.env pos' (newList []) false (eval iter X.env) use) Qf X.xe s := by
  have free : ∀ y ∈ scope.names, y.2 = .free → ∃ c, X.env.cells.lookup y.1 = some c := fun y hy e => (ok.free y hy e).elim (fun z => I.ok.has _ (.inl z)) fun z => I.ok.has _ (.inr z)
  refine wpAny_comprehension_free (use := use) rfl hs (closure_ok free) ok.kind (fun y hy e => (ok.uniq y hy).trans (congrArg some e)) ?_
  refine thn (hi.run pins s σ H _ I h) fun xv s1 hx => thn hx fun itv s2 ⟨it, fp, tn, J, H2, ei, I2, T, st2, f2, q⟩ => ?_
  subst ei
  (refine wpAny_newObj_type (newEnv_comp ?_) (by show 0 ≤ sizeLine; decide))
  have rd := q s2.heap.objs.size (I2.hok.fresh (Nat.le_refl _))
  generalize es3 : ({ s2 with heap := s2.heap.push { cls := .type "list", data := .seq ([] : List Value).toArray } } : Shared) = s3
  have hp3 : s3.heap = s2.heap.push { cls := .type "list", data := .seq ([] : List Value).toArray } := congrArg (·.heap) es3.symm
  have I3 : Inv X pins σ (upd H2 s2.heap.objs.size (.lst [])) s3 := by
    subst es3
    exact I2.laid (t' := s2.toks) (fun b o e => Heap.get?_push_of_some _ e) (Nat.le_refl _) ⟨Nat.zero_le _, [], 0, .nil, Heap.get?_push_size _ rfl⟩
  have small : ∀ b ∈ fp, b < s2.heap.objs.size := fun b hb => let ⟨_, e, _⟩ := T.obj _ _ st2 b hb; Heap.lt_size e
  have f3 : ∀ b ∈ fp, FpOk X pins (upd H2 s2.heap.objs.size (.lst [])) b ∧ b < s3.heap.objs.size := fun b hb =>
    ⟨⟨(upd_ne (Nat.ne_of_lt (small b hb))).trans (f2 b hb).1, (f2 b hb).2⟩, by rw [hp3, Heap.size_push]; exact Nat.lt_succ_of_lt (small b hb)⟩
  have st3 : tn 0 s3.heap := T.keep _ _ _ st2 fun b _ o e => hp3 ▸ Heap.get?_push_of_some _ e
  (have I4 := block_start I3 ok hN f3)
  generalize upd H2 s2.heap.objs.size (.lst []) = H3 at I3 I4 rd f3
  generalize s2.heap.objs.size = D at rd
  have run := loop J D s3 { s3 with heap := pushCells (s3.heap.push { cls := .type "dict", data := .dict #[] }) scope.names } H3 s3.heap.objs.size it (cellsFrom (s3.heap.objs.size + 1) scope.names (cloFrom X.env.cells scope.names [])) fp tn
    (compPost (model X.prog X.w) X.A X.xe use Qf (.ref D) s3.heap.objs.size) I4 T (T.keep _ _ _ st3 fun b _ o e => pushCells_keeps _ _ _ _ (Heap.get?_push_of_some _ e))
    (fun b hb => ⟨(f3 b hb).1.1, (I4.ok.exf b hb).1, I4.ok.exfs b hb, .inl hb, fun x c e => (I4.ok.exf b hb).2 x c e, fun p hp => absurd (show p ∈ ([] : List (Addr × Obj)) ++ [] from hp) (by simp)⟩) rd
    fun σ5 H5 s5 I5 q5 => by
      have back : Inv X pins σ H5 s5 := I3.call' (ch := fp) I5.os I5.base I5.hok I5.bare fun b hb => ⟨(f3 b hb).1.2.2.2.1, (f3 b hb).1.2.1, (f3 b hb).1.2.2.2.2.1, (f3 b hb).1.2.2.2.2.2⟩
      have hole : H5 s3.heap.objs.size = none := I5.free
      obtain ⟨m, hn, _⟩ := I5.loc
      exact hRR D s3.heap.objs.size s5 m H5 back q5 hn (I3.fpOk (Nat.le_refl _) hole)
  exact codeAny_compStart_list run (T.self X.A 0 _ _ _ (T.keep _ _ _ st3 fun b _ o e => pushCells_keeps _ _ _ _ (Heap.get?_push_of_some _ e)) run)
/-- a block's reading from its first clause on; vs: the block's names, vs1, vs2: those of the second and third targets -/
def rd3 (g : TG) (tt : TT) (wi1 : TI) (g1 : TG) (tt1 : TT) (wi2 : TI) (g2 : TG) (tt2 : TT) (te : TE) (vs vs1 vs2 : List Nat) (σ : L2.St) (Q : VK) : It → Addr → Hp → Prop := fun J D H =>
  CLap J g tt vs (fun τ H4 Nx => wi1 τ H4 fun J1 H5 => CLap J1 g1 tt1 vs1 (fun τ1 H6 Nx1 => wi2 τ1 H6 fun J2 H7 => CLap J2 g2 tt2 vs2 (fun τ2 H8 Nx2 => te τ2 H8 fun y H9 => ∃ acc, H9 D = some (.lst acc) ∧ acc.length < sizeLine ∧ Nx2 (upd H9 D (.lst (acc ++ [y])))) τ1 H7 Nx1) τ H5 Nx) (wipe σ vs) H (Q (.ref D))
/-- [elt for tg in iter if .. for tg1 in iter1 if .. for tg2 in iter2 if ..] -/
def tLc3 (wi : TI) (g : TG) (tt : TT) (wi1 : TI) (g1 : TG) (tt1 : TT) (wi2 : TI) (g2 : TG) (tt2 : TT) (te : TE) (vs vs1 vs2 : List Nat) : TE := fun σ H Q => wi σ H fun J H1 => ∀ D, H1 D = none → rd3 g tt wi1 g1 tt1 wi2 g2 tt2 te vs vs1 vs2 σ Q J D (upd H1 D (.lst []))
section
variable {elt tg iter tg1 iter1 tg2 iter2 : Expr} {ifs ifs1 ifs2 : List Expr} {scope : Scope} {own : List (Str × Nat)} {vs1 vs2 : List Nat} {pos pos' spos py : Pos} {wi wi1 wi2 : TI} {g g1 g2 : TG} {tt tt1 tt2 : TT} {te : TE} {use : Option (Value → Sem Unit)} {Qf : Value → Shared → Prop} {Q : VK} {i : Nat} {y : Str}
/-- the contexts of a block -/
abbrev InBlk (X : Cx) (scope : Scope) (P : Cx → Prop) : Prop := ∀ (s : Shared) (H : Hp) (C : Addr) (cl : List (Str × Addr)) (fp : List Addr), P (X.blk s H scope (compEnvC scope cl C X.env) fp)
theorem lc3_core (hc : X.calm = true) (hN : X.N.Nodup) (I : Inv X pins σ H s) (hi : PI X tg iter wi) (ok : BlkOk X.N X.env.scope scope own) (hv1 : ∀ i ∈ vs1, i ∈ own.map (·.2)) (hv2 : ∀ i ∈ vs2, i ∈ vs1)
    (hg : InBlk X scope fun B => PG B tg g) (ht : InBlk X scope fun B => PTs B ifs tt) (hi1 : InBlk X scope fun B => PI B tg1 iter1 wi1) (hg1 : InBlk X scope fun B => PG B tg1 g1) (ht1 : InBlk X scope fun B => PTs B ifs1 tt1)
    (hi2 : InBlk X scope fun B => PI B tg2 iter2 wi2) (hg2 : InBlk X scope fun B => PG B tg2 g2) (ht2 : InBlk X scope fun B => PTs B ifs2 tt2) (he : InBlk X scope fun B => PE B elt te)
    (hs : ∀ x, foldedSetIterable iter X.env x = pure x) (hs1 : ∀ env x, foldedSetIterable iter1 env x = pure x) (hs2 : ∀ env x, foldedSetIterable iter2 env x = pure x)
    (h : tLc3 wi g tt wi1 g1 tt1 wi2 g2 tt2 te (own.map (·.2)) vs1 vs2 σ H Q)
    (hRR : ∀ D C s' m H', Inv X pins σ H' s' → Q (.ref D) H' → s'.heap.Ns C m → FpOk X pins H' C → compPost (model X.prog X.w) X.A X.xe use Qf (.ref D) C (.ok .next) s') -- reached
    :
    wpAny (model X.prog X.w) X.A (comprehension (.ListComp elt [⟨tg, iter, ifs, 0⟩, ⟨tg1, iter1, ifs1, 0⟩, ⟨tg2, iter2, ifs2, 0⟩] scope pos) scope X.env pos' (newList []) false (eval iter X.env) use) Qf X.xe s := by
  refine block_core (Rd := rd3 g tt wi1 g1 tt1 wi2 g2 tt2 te (own.map fun x : Str × Nat => x.2) vs1 vs2 σ Q) hN I hi ok hs h ?_ hRR
  intro J D s3 s4 H3 C it cl fp tn R I4 T st4 nf rd hR
  have pg := hg s3 H3 C cl fp
  have pt := ht s3 H3 C cl fp
  have pi1 := hi1 s3 H3 C cl fp
  have pg1 := hg1 s3 H3 C cl fp
  have pt1 := ht1 s3 H3 C cl fp
  have pi2 := hi2 s3 H3 C cl fp
  have pg2 := hg2 s3 H3 C cl fp
  have pt2 := ht2 s3 H3 C cl fp
  have pe := he s3 H3 C cl fp
  have es1 := hs1 (compEnvC scope cl C X.env)
  have es2 := hs2 (compEnvC scope cl C X.env)
  generalize hB : X.blk s3 H3 scope (compEnvC scope cl C X.env) fp = B at *
  have xe : B.xe = fun _ _ => False := by subst hB; rfl
  have cB : B.calm = true := by subst hB; exact hc
  have eE : compEnvC scope cl C X.env = B.env := by subst hB; rfl
  have eP : X.prog = B.prog := by subst hB; rfl
  have eW : X.w = B.w := by subst hB; rfl
  have eK : X.K = B.K := by subst hB; rfl
  have eA : X.A = B.A := by subst hB; rfl
  rw [eP, eW, eK] at T
  rw [eE] at es1 es2
  rw [eP, eW, eA, eE]
  refine loop_walk (k := kMid _ 0 _ _ _ iter1) cB turn3_0 rfl pg pt T xe I4 st4 nf rd ?_ (fun H' s' I' q => hR _ H' s' I' q)
  intro h0
  refine mid_body (t1 := tg1) (ifs1 := ifs1) (e1 := iter1) xe hv1 rfl pi1 es1 rfl ?_ _
  intro pl τ H1 s1 it1 fp1 tn1 J1 N1 R1 I1 T1 st1 f1 L1 hR1
  refine loop_walk (k := kMid _ 1 _ _ _ iter2) cB turn3_1 rfl pg1 pt1 T1 xe I1 st1 f1 L1 ?_ hR1
  intro h1
  refine mid_body (t1 := tg2) (ifs1 := ifs2) (e1 := iter2) xe hv2 rfl pi2 es2 rfl ?_ _
  intro pl2 τ2 H2 s2 it2 fp2 tn2 J2 N2 R2 I2 T2 st2 f2 L2 hR2
  refine loop_walk (k := kEnd _ 2 _ _ _ elt) cB turn3_2 rfl pg2 pt2 T2 xe I2 st2 f2 L2 ?_ hR2
  intro h2
  exact emit_body xe pe rfl _
theorem ps_setLc3 (hc : X.calm = true) (hN : X.N.Nodup) (hy : X.N[i]? = some y) (hyl : X.env.scope.names.lookup y = some .local)
    (hsw : swapsWith (.ListComp elt [⟨tg, iter, ifs, 0⟩, ⟨tg1, iter1, ifs1, 0⟩, ⟨tg2, iter2, ifs2, 0⟩] scope pos) (some (.Name y py)) spos.line X.env = pure true) (hi : PI X tg iter wi) (ok : BlkOk X.N X.env.scope scope own) (hv1 : ∀ i ∈ vs1, i ∈ own.map (·.2)) (hv2 : ∀ i ∈ vs2, i ∈ vs1)
    (hg : InBlk X scope fun B => PG B tg g) (ht : InBlk X scope fun B => PTs B ifs tt) (hi1 : InBlk X scope fun B => PI B tg1 iter1 wi1) (hg1 : InBlk X scope fun B => PG B tg1 g1) (ht1 : InBlk X scope fun B => PTs B ifs1 tt1)
    (hi2 : InBlk X scope fun B => PI B tg2 iter2 wi2) (hg2 : InBlk X scope fun B => PG B tg2 g2) (ht2 : InBlk X scope fun B => PTs B ifs2 tt2) (he : InBlk X scope fun B => PE B elt te)
    (hs : ∀ x, foldedSetIterable iter X.env x = pure x := by intro _; rfl) (hs1 : ∀ env x, foldedSetIterable iter1 env x = pure x := by intro _ _; rfl) (hs2 : ∀ env x, foldedSetIterable iter2 env x = pure x := by intro _ _; rfl) :
    PS X (.Assign [.Name y py] (.ListComp elt [⟨tg, iter, ifs, 0⟩, ⟨tg1, iter1, ifs1, 0⟩, ⟨tg2, iter2, ifs2, 0⟩] scope pos) spos) (tAsg (tLc3 wi g tt wi1 g1 tt1 wi2 g2 tt2 te (own.map (·.2)) vs1 vs2) (gName i)) := by
  refine ⟨fun pins s σ H D I h => ?_⟩
  (rw [exec_Assign_Name_used _ _ _ _ hsw])
  (refine wpAny_bind (wpAny_standAt (wpAny_bind ?_)))
  show wpAny _ X.A (do let _ ← comprehension (.ListComp elt [⟨tg, iter, ifs, 0⟩, ⟨tg1, iter1, ifs1, 0⟩, ⟨tg2, iter2, ifs2, 0⟩] scope pos) scope X.env (firstIterPos [⟨tg, iter, ifs, 0⟩, ⟨tg1, iter1, ifs1, 0⟩, ⟨tg2, iter2, ifs2, 0⟩] pos) (newList []) false (eval iter X.env) (some (assign (.Name y py) X.env))) _ _ s
  have h : tLc3 wi g tt wi1 g1 tt1 wi2 g2 tt2 te (own.map (·.2)) vs1 vs2 σ H (fun x H1 => gName i x σ H1 D.nx) := h
  refine wpAny_bind (thn (lc3_core (Qf := fun _ s' => SP X pins D .next s') hc hN I hi ok hv1 hv2 hg ht hi1 hg1 ht1 hi2 hg2 ht2 he hs hs1 hs2 h fun L C s' m H' I' q hn f => ?_) fun _ s' hq => wpAny_pure (wpAny_pure hq))
  (show wpAny _ _ (assign (.Name y py) X.env (.ref L)) _ _ _)
  (refine wpAny_assign_Name (store_ok2 (v := V.ref L) I' hN hy (.inl hyl) rfl (fun s2 I2 ⟨a, sb, ha⟩ => ?_) (.inr hyl)))
  have off : C ≠ a := ha.elim (fun z => z ▸ f.2.1) fun z e => f.2.2.2.2.1 y a z e.symm
  refine ⟨m, hn.sameBut sb off, fun h3 sb3 => ⟨_, H', I2.turned (t' := s2.toks) (fun b o hb e => (sb3.2 b hb).trans e) f.1 f.2.1 f.2.2.2.1 f.2.2.2.2.1 f.2.2.2.2.2, q⟩⟩
end
end
end U
namespace U
open PySem PySem.Spec PyProof.Rows L2

/-! ### several dicts locked at once -/
def tLockN (t : TS) : Nat → TS
  | 0 => t
  | n + 1 => tLock (tLockN t n)
def tLockS (t : TS) : TS := fun D σ H => ∃ n, tLockN t n D σ H
theorem ps_lockN {X : Cx} {st : Stmt} {t : TS} (h : PS X st t) : ∀ n, PS X st (tLockN t n)
  | 0 => h
  | n + 1 => ps_lock (ps_lockN h n)
theorem ps_lockS {X : Cx} {st : Stmt} {t : TS} (h : PS X st t) : PS X st (tLockS t) := ⟨fun pins s σ H D I hw => by
  obtain ⟨n, hw⟩ := hw
  exact (ps_lockN h n).run pins s σ H D I hw⟩
/-- a statement that goes on, while these dicts are locked -/
theorem locks {t : TS} {σ : L2.St} : ∀ (ds : List Addr) {D : Ends} {H : Hp}, ds.Nodup → (∀ d ∈ ds, ∃ kvs, H d = some (.dK kvs)) →
    (∀ (D1 : Ends) (H1 : Hp), (∀ b, b ∉ ds → H1 b = H b) → (∀ d ∈ ds, ∃ kvs od, H d = some (.dK kvs) ∧ H1 d = some (.frz od (.dK kvs))) →
      (∀ σ' H2, (∀ d ∈ ds, H2 d = H1 d) → (∀ Hu, (∀ b, b ∉ ds → Hu b = H2 b) → (∀ d ∈ ds, Hu d = H d) → D.nx σ' Hu) → D1.nx σ' H2) → t D1 σ H1) → tLockN t ds.length D σ H
  | [], D, H, _, _, key => key D H (fun _ _ => rfl) (fun _ m => nomatch m) fun σ' H2 _ q => q H2 (fun _ _ => rfl) fun _ m => nomatch m
  | d :: r, D, H, nd, hk, key => by
    obtain ⟨nm, nr⟩ := List.nodup_cons.mp nd
    obtain ⟨kvs, hd⟩ := hk d List.mem_cons_self
    have rd : ∀ {x : Addr}, x ∈ r → x ≠ d := fun m z => nm (z ▸ m)
    refine ⟨d, .dK kvs, hd, trivial, fun od => ?_⟩
    refine locks r nr (fun x m => ?_) fun D1 H1 o1 l1 q1 => ?_
    · obtain ⟨k2, h2⟩ := hk x (List.mem_cons_of_mem _ m)
      exact ⟨k2, by rw [upd_ne (rd m)]; exact h2⟩
    · have hd1 : H1 d = some (.frz od (.dK kvs)) := by rw [o1 d nm, upd_same]
      refine key D1 H1 (fun b nb => ?_) (fun x m => ?_) fun σ' H2 same q => ?_
      · rw [List.mem_cons, not_or] at nb
        rw [o1 b nb.2, upd_ne nb.1]
      · rcases List.mem_cons.mp m with rfl | m
        · exact ⟨kvs, od, hd, hd1⟩
        · obtain ⟨k2, o2, e1, e2⟩ := l1 x m
          rw [upd_ne (rd m)] at e1
          exact ⟨k2, o2, e1, e2⟩
      · refine q1 σ' H2 (fun x m => same x (List.mem_cons_of_mem _ m)) fun Hu a1 a2 => ?_
        have hud : Hu d = some (.frz od (.dK kvs)) := by rw [a1 d nm, same d List.mem_cons_self, hd1]
        refine ⟨hud, q _ (fun b nb => ?_) fun x m => ?_⟩
        · rw [List.mem_cons, not_or] at nb
          rw [upd_ne nb.1, a1 b nb.2]
        · rcases List.mem_cons.mp m with rfl | m
          · rw [upd_same, hd]
          · rw [upd_ne (rd m), a2 x m, upd_ne (rd m)]
theorem plain_Vd {d : Addr} {o : Obj} {kvs : List (Key × V)} : Plain (Itd d o kvs) (kvs.map fun p => p.2) fun H => H d = some (.frz o (.dK kvs)) where
  go := fun i H h lt => ⟨h, by simpa using lt⟩
  yld := fun i H x H' h ⟨e, k, h1⟩ => ⟨e, fun _ => by rw [List.getElem?_map, h1]; rfl⟩
  stop := fun i H h e => ⟨h, by simp at e; omega⟩
/-- a clause over what does not change -/
theorem clap_plain {J : It} {xs : List V} {G : Hp → Prop} (P : Plain J xs G) {g : TG} {tt : TT} {vs : List Nat} {rd : L2.St → Hp → (Hp → Prop) → Prop} {σ : L2.St} {H : Hp} {N : Hp → Prop} (Pv : Nat → Hp → Prop) (h0 : Pv 0 H) (hG : ∀ i H, Pv i H → G H)
    (hs : ∀ i x H, xs[i]? = some x → Pv i H → g x (wipe σ vs) H fun τ H5 => wipe τ vs = wipe σ vs ∧ tt τ H5 fun b H6 => if b = true then rd τ H6 (Pv (i + 1)) else Pv (i + 1) H6) (hd : ∀ H, Pv xs.length H → N H) : CLap J g tt vs rd σ H N := by
  refine ⟨fun i m H => m = xs.length - i ∧ (i ≤ xs.length ∧ Pv i H), ⟨_, rfl, Nat.zero_le _, h0⟩, ?_⟩
  rintro i m H1 ⟨rfl, le, p⟩
  by_cases lt : i < xs.length
  · refine .inr ⟨P.go i H1 (hG i H1 p) lt, Pv (i + 1), fun H' p' => ⟨xs.length - (i + 1), by omega, rfl, lt, p'⟩, fun x H' y => ?_⟩
    obtain ⟨rfl, hx⟩ := P.yld i H1 x H' (hG i H1 p) y
    exact hs i x H' (hx lt) p
  · have e : i = xs.length := Nat.le_antisymm le (Nat.le_of_not_lt lt)
    exact .inl ⟨P.stop i H1 (hG i H1 p) e, hd H1 (e ▸ p)⟩
end U
namespace U
open PySem PySem.Spec PyProof.Rows L2

/-! ### papers -/
abbrev Lvl := Nat → Nat → Option Int
/-- none of these costs is below zero -/
def GoodL (f : Lvl) : Prop := ∀ i j v, i < 3 → j < 3 → i ≠ j → f i j = some v → 0 ≤ v
/-- a list of dicts of costs -/
def LvT (H : Hp) (l : Addr) (fs : List Lvl) : Prop := ∃ ls : List Addr, H l = some (.lst (ls.map V.ref)) ∧ (ls.length = fs.length ∧ ((∀ (k : Nat) (d : Addr) (f : Lvl), ls[k]? = some d → fs[k]? = some f → H d = some (.dK (wayD f))) ∧ ls.Nodup))
theorem LvT.same {H H' : Hp} {l : Addr} {fs : List Lvl} (h : LvT H l fs) (e : Same H H') : LvT H' l fs := by
  obtain ⟨ls, h1, h2, h3, h4⟩ := h
  exact ⟨ls, e _ _ h1, h2, fun k d f a b => e _ _ (h3 k d f a b), h4⟩
theorem val_wayD (f : Lvl) {i j : Nat} (hi : i < 3) (hj : j < 3) (n : i ≠ j) : valV (wayD f) (.inr (wd [i, j])) = some (pV (f i j)) := by
  rcases (show i = 0 ∧ j = 1 ∨ i = 0 ∧ j = 2 ∨ i = 1 ∧ j = 0 ∨ i = 1 ∧ j = 2 ∨ i = 2 ∧ j = 0 ∨ i = 2 ∧ j = 1 by omega) with ⟨rfl, rfl⟩ | ⟨rfl, rfl⟩ | ⟨rfl, rfl⟩ | ⟨rfl, rfl⟩ | ⟨rfl, rfl⟩ | ⟨rfl, rfl⟩ <;> rfl
theorem dget_wayD {H : Hp} {c : Addr} {f : Lvl} {i j : Nat} (h : H c = some (.dK (wayD f))) (hi : i < 3) (hj : j < 3) (n : i ≠ j) : DGet H c (.str (wd [i, j])) (some (pV (f i j))) := by
  rw [← val_wayD f hi hj n]
  exact DGet.k (k := .inr (wd [i, j])) h
def sp__is_level (K : PySem.W.Frag) : Sp := sp2 fun x nm H Q _ => ∃ d f, x = .ref d ∧ nm = .ref (He.ga K "WAYS") ∧ H d = some (.dK (wayD f)) ∧ GoodL f ∧ ∀ H', Same H H' → Q (.bl true) H'
def sp_are_levels (K : PySem.W.Frag) : Sp := sp3 fun x n nm H Q _ => nm = .ref (He.ga K "WAYS") ∧ ((x = .non ∧ ∀ H', Same H H' → Q (.bl false) H') ∨ (∃ p xs, x = .ref p ∧ ∃ k : Int, n = .int k ∧ SqL K H p xs ∧ (xs.length : Int) ≠ k ∧ ∀ H', Same H H' → Q (.bl false) H') ∨
  ∃ l fs, x = .ref l ∧ n = .int (fs.length : Nat) ∧ LvT H l fs ∧ fs.length ≤ 61 ∧ (∀ f ∈ fs, GoodL f) ∧ (∃ f, fs[0]? = some f ∧ ∀ i j, i < 3 → j < 3 → i ≠ j → f i j = some 0) ∧ ∀ H', Same H H' → Q (.bl true) H')
def t__is_level (K : PySem.W.Frag) (E : XK) : TS := (tSeq (tIfS (tOr (tNot (tB (tCB (uIsi K) (tCons (tVar 0) (tCons (tC (.ty "dict")) tNil))))) (tTest (tOp (uNe K) (tCB rLenD (tCons (tVar 0) tNil)) (tCB (uLen K) (tCons (tVar 1) tNil))))) (tRet (tC (.bl false))) tNext) (tSeq (tAsg (tLc (iSeq K (tVar 1)) (gName 3) tYes (tDGet2 (tVar 0) (tVar 3) (tC (.bl false))) [3]) (gName 2)) (tRet (tCB (rAll K) (tCons (tLc (iSeq K (tVar 2)) (gName 4) tYes (tOrV (tOp uIs (tVar 4) (tC .non)) (tAndV (tCB (uIsi K) (tCons (tVar 4) (tCons (tC (.ty "int")) tNil))) (tAndV (tNotV (tCB (uIsi K) (tCons (tVar 4) (tCons (tC (.ty "bool")) tNil)))) (tOp uGe (tVar 4) (tC (.int 0)))))) [4]) tNil)))))
def t_are_levels (K : PySem.W.Frag) (E : XK) : TS := (tRet (tAndV (tCB (uIsi K) (tCons (tVar 0) (tCons (tTup (tCons (tC (.ty "list")) (tCons (tC (.ty "tuple")) tNil))) tNil))) (tAndV (tOp (uEq K) (tCB (uLen K) (tCons (tVar 0) tNil)) (tVar 1)) (tAndV (tCB (rAll K) (tCons (tLc (iSeq K (tVar 0)) (gName 3) tYes (tFn (sp__is_level K) E0 (tCons (tVar 3) (tCons (tVar 2) tNil))) [3]) tNil)) (tCB (rAll K) (tCons (tLc (iSeq K (tVar 2)) (gName 4) tYes (tOp (uEq K) (tDGet (tOp (uIx K) (tVar 0) (tC (.int 0))) (tVar 4)) (tC (.int 0))) [4]) tNil))))))
section
variable {K : PySem.W.Frag} (F : KF K) (R : KR K) {vs : List V} {H : Hp} {Q : VK} {E : XK}
local macro_rules | `(tactic| walk_at "w") => `(tactic| try simp only [turnE, lcT, Snoc, tRet, tRetN, tAndV, tOrV, tNotV, tCB, tCons, tVar, tNil, tC, tOp, tSeq, tAsg, gName, gSub, tIfS, tDrop, tFn, tTup, tLst, tNext, tB, tTest, tNot, tAnd, tOr, tIf, tChain, tUn, rU, tFld, tPart, tNoPart, L2.tSl, tBM, tPar, tPar3, tTruth, tDNewK,
  L2.start, List.map_cons, List.map_nil, List.length_cons, List.length_nil, List.replicate_succ, List.replicate_zero, List.append_nil, List.nil_append, List.cons_append, List.singleton_append, Nat.sub_self, Nat.zero_add, Nat.reduceAdd, Nat.reduceSub,
  List.getElem?_cons_zero, List.getElem?_cons_succ, List.set_cons_zero, List.set_cons_succ, Option.some.injEq, exists_eq_left, exists_eq_left', V.int.injEq, V.bl.injEq, V.str.injEq, V.ref.injEq,
  uAdd_int, uAdd_str, uSub_int, uMul_int, uMul_str, uDiv_int, uMod_int, uPow_int, uLt_int, uLe_int, uGt_int, uGe_int, uIs_non, uNis_non, uIs_bl, uNis_bl, sp1, sp2, sp3, sp4, uEq_int, uEq_str, uNe_int, uNe_str, uSl_str, uLen_str, decide_eq_true_eq])
local macro_rules | `(tactic| walk_at "1") => `(tactic| try simp only [turnE, lcT, Snoc, tRet, tRetN, tAndV, tOrV, tNotV, tCB, tCons, tVar, tNil, tC, tOp, tAsg, gName, gSub, tIfS, tDrop, tFn, tTup, tLst, tNext, tB, tTest, tNot, tAnd, tOr, tIf, tChain, tUn, rU, tFld, tPart, tNoPart, L2.tSl, tBM, tPar, tPar3, tTruth, tDNewK,
  L2.start, List.map_cons, List.map_nil, List.length_cons, List.length_nil, List.replicate_succ, List.replicate_zero, List.append_nil, List.nil_append, List.cons_append, List.singleton_append, Nat.sub_self, Nat.zero_add, Nat.reduceAdd, Nat.reduceSub,
  List.getElem?_cons_zero, List.getElem?_cons_succ, List.set_cons_zero, List.set_cons_succ, Option.some.injEq, exists_eq_left, exists_eq_left', V.int.injEq, V.bl.injEq, V.str.injEq, V.ref.injEq,
  uAdd_int, uAdd_str, uSub_int, uMul_int, uMul_str, uDiv_int, uMod_int, uPow_int, uLt_int, uLe_int, uGt_int, uGe_int, uIs_non, uNis_non, uIs_bl, uNis_bl, sp1, sp2, sp3, sp4, uEq_int, uEq_str, uNe_int, uNe_str, uSl_str, uLen_str, decide_eq_true_eq])
local macro_rules | `(tactic| walk_at "s") => `(tactic| ((try dsimp only [turnE]); with_reducible refine seq_ ?_))

/-- [te for ..] whose items are all True -/
theorem all_true {J : It} {G : Hp → Prop} {xs : List V} (P : Plain J xs G) {te : TE} {j : Nat} {σ : L2.St} {D : Addr} {Qd : Hp → Prop} (hD : H D = none) (hl : xs.length ≤ 1000) (hG : ∀ H', Same H H' → G H')
    (hs : ∀ (i : Nat) (x : V) (H2 : Hp) (Q : VK), xs[i]? = some x → Same H H2 → (∀ H4, Same H2 H4 → Q (.bl true) H4) → te (σ.set j (some x)) H2 Q)
    (hd : ∀ H2, Same H H2 → H2 D = some (.lst ((List.replicate xs.length true).map V.bl)) → Qd H2) : LcB J (gName j) tYes te [j] σ H D Qd := by
  refine lc_grow P (fun acc _ => acc = (List.replicate acc.length true).map V.bl) hD (Nat.le_trans hl (by decide)) hG (fun _ _ => rfl) (fun _ _ _ _ _ _ z => z) ?_ ?_
  · intro i x acc H2 Q2 hx s2 la r go
    refine hs i x H2 Q2 hx s2 fun H4 s4 => go _ H4 s4 ?_
    rw [List.length_append, List.length_singleton, List.replicate_succ', List.map_append, ← r]
    rfl
  · intro acc H2 la s2 gD r
    refine hd H2 s2 ?_
    rw [gD, r, la]
theorem all_rep {a : Addr} {n : Nat} (h : H a = some (.lst ((List.replicate n true).map V.bl))) (q : Q (.bl true) H) : rAll K [.ref a] H Q := by
  refine ⟨a, _, rfl, .inl (.inl h), ?_⟩
  rw [show (List.replicate n true).all id = true from by simp]
  exact q
include F in
theorem over_ways {g : TG} {tt : TT} {te : TE} {ws : List Nat} {σ : L2.St} {t : TE} (ht : ∀ Q, t σ H Q = Q (.ref (He.ga K "WAYS")) H) (hc : ∀ (J : It) (G : Hp → Prop), Plain J (waysN.map fun w => V.str (wd [w.1, w.2])) G → (∀ H', Same H H' → G H') → ∀ D, H D = none → LcB J g tt te ws σ H D (Q (.ref D))) : tLc (iSeq K t) g tt te ws σ H Q :=
  tLc_seq (p := He.ga K "WAYS") (xs := waysN.map fun w => V.str (wd [w.1, w.2])) (.inr (ways6V ▸ F.ways H)) ht hc
include F in
theorem read__is_level (h : sp__is_level K vs H Q E) : t__is_level K E { nx := fun _ H' => Q .non H', rt := Q } (start ["value", "names", "costs", "name", "cost"] vs) H := by
  match vs, h with
  | [_, _], ⟨d, f, rfl, rfl, gd, gf, q⟩ =>
    unfold t__is_level
    walk_at "s"
    walk_at "1"
    refine isi_ty F (b := .dct) rfl (is_dct gd) ⟨_, rfl, ?_⟩
    rw [if_neg (by decide)]
    refine ⟨d, _, rfl, gd, ?_⟩
    refine uLen_seq (.inr (F.ways H)) ?_
    walk_at "1"
    rw [if_neg (by simp [wayD, waysN])]
    walk_at "s"
    refine over_ways F (tVar_eq rfl) fun J G P hG C nC => ?_
    refine lc_grow P (fun acc _ => acc = (waysN.take acc.length).map fun w => pV (f w.1 w.2)) nC (by decide) hG (fun _ _ => rfl) (fun _ _ _ _ _ _ z => z) ?_ ?_
    · intro i x acc H2 Q2 hx s2 la r go
      rw [List.getElem?_map] at hx
      obtain ⟨w, hw, rfl⟩ := Option.map_eq_some_iff.mp hx
      obtain ⟨w1, w2, w3⟩ := waysN_ok w (List.mem_of_getElem? hw)
      have g2 := s2 _ _ gd
      simp only [tDGet2, List.set_cons_zero, List.set_cons_succ]
      walk_at "1"
      refine ⟨.inl ⟨_, .inl g2⟩, _, dget_wayD g2 w1 w2 w3, go _ H2 (Same.refl _) ?_⟩
      rw [List.length_append, List.length_singleton, la, List.take_succ, hw, List.map_append, ← la, ← r]
      rfl
    · intro acc H2 la s2 gC r
      rw [la, List.length_map, List.take_of_length_le (Nat.le_refl _)] at r
      subst r
      simp only [List.set_cons_zero, List.set_cons_succ]
      walk_at "1"
      refine tLc_seq (p := C) (xs := waysN.map fun w => pV (f w.1 w.2)) (.inl (.inl (.inl gC))) (tVar_eq rfl) fun J2 G2 P2 hG2 D nD => ?_
      refine all_true P2 nD (by rw [List.length_map]; decide) hG2 ?_ fun H3 s3 gD => all_rep gD (q H3 (s2.trans s3))
      intro i x H3 Q3 hx s3 go
      rw [List.getElem?_map] at hx
      obtain ⟨w, hw, rfl⟩ := Option.map_eq_some_iff.mp hx
      obtain ⟨w1, w2, w3⟩ := waysN_ok w (List.mem_of_getElem? hw)
      have pos := fun v => gf w.1 w.2 v w1 w2 w3
      walk_at "1"
      have go := go H3 (Same.refl _)
      cases e : f w.1 w.2 with
      | none =>
        show Q3 (.bl true) H3
        exact go
      | some v =>
        have p0 := pos v e
        rw [if_neg (by intro z; cases z)]
        refine isi_ty F (b := .int) rfl (is_int v) ⟨true, rfl, ?_⟩
        rw [if_pos rfl]
        refine isi_ty F (b := .bl) rfl (is_int v) ⟨false, rfl, ?_⟩
        show Q3 (.bl (decide (0 ≤ v))) H3
        rw [decide_eq_true p0]
        exact go
include F in
theorem read_are_levels (h : sp_are_levels K vs H Q E) : t_are_levels K E { nx := fun _ H' => Q .non H', rt := Q } (start ["value", "count", "names", "level", "name"] vs) H := by
  match vs, h with
  | [_, _, _], ⟨rfl, h⟩ =>
    unfold t_are_levels
    walk_at "1"
    refine ⟨by decide, fun T nT => ?_⟩
    have s1 : Same H (upd H T (.tup [.ty "list", .ty "tuple"])) := same_new nT
    have gT : upd H T (.tup [.ty "list", .ty "tuple"]) T = some (.tup [.ty "list", .ty "tuple"]) := upd_same
    generalize upd H T (.tup [.ty "list", .ty "tuple"]) = H1 at *
    rcases h with ⟨rfl, q⟩ | ⟨p, xs, rfl, k, rfl, hp, ne, q⟩ | ⟨l, fs, rfl, rfl, hl, h61, good, ⟨f0, e0, z0⟩, q⟩
    · refine isi_seq F gT (is_non) ⟨false, rfl, ?_⟩
      exact q H1 s1
    · have hp1 := Same.seq s1 hp
      refine isi_seq F gT (is_sqL hp1) ⟨true, rfl, ?_⟩
      rw [if_pos rfl]
      refine uLen_seq (.inl hp1) ?_
      walk_at "1"
      rw [if_neg ne]
      exact q H1 s1
    · obtain ⟨ls, l1, l2, l3, l4⟩ := hl.same s1
      refine isi_seq F gT (is_sqL (.inl (.inl l1))) ⟨true, rfl, ?_⟩
      rw [if_pos rfl]
      refine uLen_seq (.inl (.inl (.inl l1))) ?_
      walk_at "1"
      rw [if_pos (by rw [List.length_map, l2])]
      refine tLc_seq (p := l) (xs := ls.map V.ref) (.inl (.inl (.inl l1))) (tVar_eq rfl) fun J G P hG C nC => ?_
      refine all_true P nC (by rw [List.length_map, l2]; omega) hG ?_ fun H2 s2 gC => ?_
      · intro i x H2 Q2 hx s2 go
        rw [List.getElem?_map] at hx
        (obtain ⟨d, hd, rfl⟩ := Option.map_eq_some_iff.mp hx)
        have li : i < fs.length := l2 ▸ (List.getElem?_eq_some_iff.mp hd).1
        have ef : fs[i]? = some fs[i] := List.getElem?_eq_getElem li
        walk_at "1"
        exact ⟨d, fs[i], rfl, rfl, s2 _ _ (l3 i d _ hd ef), good _ (List.getElem_mem li), go⟩
      · refine all_rep gC ⟨true, rfl, ?_⟩
        rw [if_pos rfl]
        have d0 : ∃ d0, ls[0]? = some d0 ∧ H2 d0 = some (.dK (wayD f0)) := by
          have lt : 0 < ls.length := by
            rw [l2]
            exact (List.getElem?_eq_some_iff.mp e0).1
          exact ⟨ls[0], List.getElem?_eq_getElem lt, s2 _ _ (l3 0 _ _ (List.getElem?_eq_getElem lt) e0)⟩
        obtain ⟨d0, ed, gd⟩ := d0
        have l1' := s2 _ _ l1
        refine over_ways F (tVar_eq rfl) fun J2 G2 P2 hG2 D nD => ?_
        refine all_true P2 nD (by decide) hG2 ?_ fun H3 s3 gD => all_rep gD (q H3 ((s1.trans s2).trans s3))
        intro i x H3 Q3 hx s3 go
        rw [List.getElem?_map] at hx
        obtain ⟨w, hw, rfl⟩ := Option.map_eq_some_iff.mp hx
        obtain ⟨w1, w2, w3⟩ := waysN_ok w (List.mem_of_getElem? hw)
        walk_at "1"
        simp only [tDGet]
        walk_at "1"
        refine ⟨_, _, .inl (.inl (.inl (s3 _ _ l1'))), (show atI (ls.map V.ref) ((0 : Nat) : Int) = some (.ref d0) from at_nat (by rw [List.getElem?_map, ed]; rfl)), ?_⟩
        refine ⟨d0, _, rfl, dget_wayD (s3 _ _ gd) w1 w2 w3, ?_⟩
        rw [z0 w.1 w.2 w1 w2 w3]
        show Q3 (.bl (decide ((0 : Int) = 0))) H3
        exact go H3 (Same.refl _)
end
end U
namespace U
open PySem PySem.Spec PyProof.Rows L2

/-! ### papers judged with a bound -/
def sixB (B : Int) (f : Lvl) : List Int := six fun i j => (f i j).getD B
theorem getD_stands {B M : Int} {c : Option Int} {n : Int} (h : Stands B M c n) : c.getD B ≤ n := by
  cases c with
  | none => exact h
  | some v => exact Int.le_of_eq h.1.symm
theorem stands_getD {B M : Int} {c : Option Int} (h : ∀ v, c = some v → 0 ≤ v ∧ v ≤ M) : Stands B M c (c.getD B) := by
  cases c with
  | none => exact Int.le_refl _
  | some v => exact ⟨rfl, h v rfl⟩
theorem omin_le {B : Int} {a b : Option Int} {x y : Int} (ha : a.getD B ≤ x) (hb : b.getD B ≤ y) (hv : ∀ v, omin a b = some v → v ≤ B) : (omin a b).getD B ≤ min x y := by
  cases a with
  | none =>
    cases b with
    | none => exact (Int.le_min).mpr ⟨ha, hb⟩
    | some v => exact (Int.le_min).mpr ⟨Int.le_trans (hv v rfl) ha, hb⟩
  | some u =>
    cases b with
    | none => exact (Int.le_min).mpr ⟨ha, Int.le_trans (hv u rfl) hb⟩
    | some v =>
      have ha : u ≤ x := ha
      have hb : v ≤ y := hb
      show min u v ≤ min x y
      omega
/-- no level is above the lines made of the level ahead of it -/
theorem step_within {p D : Lvl} {P N : Nat → Nat → Int} {B M : Int} (hB : 0 ≤ B) (hp : ∀ i j, i < 3 → j < 3 → i ≠ j → Stands B M (p i j) (P i j)) (hd : ∀ i j, i < 3 → j < 3 → i ≠ j → Stands B M (D i j) (N i j)) {i j : Nat} (hi : i < 3) (hj : j < 3) (n : i ≠ j)
    (hv : ∀ v, stepO p D i j = some v → v ≤ B) : (stepO p D i j).getD B ≤ stepN P N i j := by
  have ht : 3 - i - j < 3 ∧ i ≠ 3 - i - j ∧ 3 - i - j ≠ j := by omega
  exact omin_le (getD_stands (osum3 hB (hd _ _ hi ht.1 ht.2.1) (hp _ _ hi hj n) (hd _ _ ht.1 hj ht.2.2)))
    (getD_stands (osum5 hB (hd _ _ hi hj n) (hp _ _ hi ht.1 ht.2.1) (hd _ _ hj hi n.symm) (hp _ _ ht.1 hj ht.2.2) (hd _ _ hi hj n))) hv
theorem towO_succ {rows : List (List (Option Int))} {k : Nat} {r : List (Option Int)} (h : rows.reverse[k]? = some r) : towO rows (k + 1) = stepO (prF r) (towO rows k) := by
  have lt := (List.getElem?_eq_some_iff.mp h).1
  unfold towO
  rw [List.take_succ_eq_append_getElem lt, List.map_append, List.reverse_append, (List.getElem?_eq_some_iff.mp h).2]
  rfl
/-- a yard's own levels -/
def ownL (rows : List (List (Option Int))) : List Lvl := (List.range (rows.length + 1)).map (towO rows)
theorem ownL_at {rows : List (List (Option Int))} {k : Nat} (h : k ≤ rows.length) : (ownL rows)[k]? = some (towO rows k) := by
  unfold ownL
  rw [List.getElem?_map, List.getElem?_range (by omega)]
  rfl
theorem ownL_len (rows : List (List (Option Int))) : (ownL rows).length = rows.length + 1 := by simp [ownL]
theorem ownL_mem {rows : List (List (Option Int))} {f : Lvl} (h : f ∈ ownL rows) : ∃ k, k ≤ rows.length ∧ f = towO rows k := by
  obtain ⟨k, mk, rfl⟩ := List.mem_map.mp h
  exact ⟨k, by have := List.mem_range.mp mk; omega, rfl⟩
theorem ownL_good {rows : List (List (Option Int))} {g : Int} (hg : Great rows g) (h6 : ∀ r ∈ rows, r.length = 6) : ∀ f ∈ ownL rows, GoodL f := by
  intro f m i j v hi hj n e
  obtain ⟨k, hk, rfl⟩ := ownL_mem m
  have := levelQ_stands hg h6 k hk i j hi hj n
  rw [e] at this
  exact this.2.1
def sp_numbers_of (K : PySem.W.Frag) : Sp := sp3 fun x nm b H Q _ => ∃ l fs B, x = .ref l ∧ nm = .ref (He.ga K "WAYS") ∧ b = .int B ∧ LvT H l fs ∧ fs.length ≤ 61 ∧ ∀ r H', Same H H' → H r = none → PrB K H' r (fs.map (sixB B)) → Q (.ref r) H'
def sp_bounded_prices (K : PySem.W.Frag) : Sp := sp2 fun y b H Q _ => ∃ p rows B, y = .ref p ∧ Yd K H p rows ∧ b = .int B ∧ ∀ l H', Same H H' → H l = none → PrB K H' l (rows.reverse.map (rowI B)) → Q (.ref l) H'
def sp_are_within (K : PySem.W.Frag) : Sp := sp2 fun x y H Q _ => ∃ a b qs ls, x = .ref a ∧ y = .ref b ∧ PrB K H a qs ∧ PrB K H b ls ∧ qs.length ≤ 61 ∧ ls.length ≤ 61 ∧ (∀ q ∈ qs, q.length = 6) ∧ (∀ q ∈ ls, q.length = 6) ∧
  (∀ (k : Nat) q l (i : Nat) u v, qs[k + 1]? = some q → ls[k]? = some l → q[i]? = some u → l[i]? = some v → (u : Int) ≤ v) ∧ ∀ H', Same H H' → Q (.bl true) H'
def sp_bound_beyond (K : PySem.W.Frag) : Sp := sp2 fun y x H Q _ => ∃ p rows L l fs, y = .ref p ∧ x = .ref L ∧ YdK K H p rows ∧ H L = some (.lst [.ref l]) ∧ LvT H l fs ∧ fs.length ≤ 61 ∧ (∃ f, fs[0]? = some f ∧ f 0 1 = some 0) ∧
  ∀ g M H', Great rows g → (∀ f ∈ fs, ∀ i j v, i < 3 → j < 3 → i ≠ j → f i j = some v → v ≤ M) → 0 ≤ M → Mild K p H H' → YdK K H' p rows → Q (.int (g * 4 ^ rows.length + 3 * M)) H'
def t_numbers_of (K : PySem.W.Frag) (E : XK) : TS := (tRet (tLc (iSeq K (tVar 0)) (gName 3) tYes (tCB (uTup K) (tCons (tLc (iSeq K (tVar 1)) (gName 4) tYes (tIf (tTest (tOp uIs (tDGet (tVar 3) (tVar 4)) (tC .non))) (tVar 2) (tDGet (tVar 3) (tVar 4))) [4]) tNil)) [3]))
def t_bounded_prices (K : PySem.W.Frag) (E : XK) : TS := (tRet (tFn (sp_without_bars K) E (tCons (tMeth (He.ga K "Yard") "price_rows" (sp_Yard_price_rows K) [] E (tVar 0) tNil) (tCons (tVar 1) tNil))))
def t_are_within (K : PySem.W.Frag) (E : XK) : TS := (tRet (tCB (rAll K) (tCons (tLc (iZipV K (tCons (tSl (uSl K) (tVar 0) (tPart (tC (.int 1))) tNoPart) (tCons (tVar 1) tNil))) (gTup K 2 (gCons (gName 2) (gCons (gName 3) gNil))) tYes (tCB (rAll K) (tCons (tLc (iZipV K (tCons (tVar 2) (tCons (tVar 3) tNil))) (gTup K 2 (gCons (gName 4) (gCons (gName 5) gNil))) tYes (tOp uLe (tVar 4) (tVar 5)) [4, 5]) tNil)) [2, 3]) tNil)))
def t_bound_beyond (K : PySem.W.Frag) (E : XK) : TS := (tSeq (tLockS (tAsg (tLc3 (iSeq K (tVar 1)) (gName 3) tYes (iSeq K (tVar 3)) (gName 4) tYes (iVals (tVar 4)) (gName 5) (tTest (tOp uNis (tVar 5) (tC .non))) (tVar 5) [3, 4, 5] [4, 5] [5]) (gName 2))) (tRet (tOp uAdd (tFld K (tMeth (He.ga K "Yard") "reckoning" (sp_Yard_reckoning K) [] E (tVar 0) tNil) "bound") (tOp uMul (tC (.int 3)) (tCB (rMax K) (tCons (tVar 2) tNil))))))
section
variable {K : PySem.W.Frag} (F : KF K) (R : KR K) {vs : List V} {H : Hp} {Q : VK} {E : XK}
local macro_rules | `(tactic| walk_at "w") => `(tactic| try simp only [turnE, lcT, Snoc, tRet, tRetN, tAndV, tOrV, tNotV, tCB, tCons, tVar, tNil, tC, tOp, tSeq, tAsg, gName, gSub, tIfS, tDrop, tFn, tTup, tLst, tNext, tB, tTest, tNot, tAnd, tOr, tIf, tChain, tUn, rU, tFld, tPart, tNoPart, L2.tSl, tBM, tPar, tPar3, tTruth, tDNewK,
  L2.start, List.map_cons, List.map_nil, List.length_cons, List.length_nil, List.replicate_succ, List.replicate_zero, List.append_nil, List.nil_append, List.cons_append, List.singleton_append, Nat.sub_self, Nat.zero_add, Nat.reduceAdd, Nat.reduceSub,
  List.getElem?_cons_zero, List.getElem?_cons_succ, List.set_cons_zero, List.set_cons_succ, Option.some.injEq, exists_eq_left, exists_eq_left', V.int.injEq, V.bl.injEq, V.str.injEq, V.ref.injEq,
  uAdd_int, uAdd_str, uSub_int, uMul_int, uMul_str, uDiv_int, uMod_int, uPow_int, uLt_int, uLe_int, uGt_int, uGe_int, uIs_non, uNis_non, uIs_bl, uNis_bl, sp1, sp2, sp3, sp4, uEq_int, uEq_str, uNe_int, uNe_str, uSl_str, uLen_str, decide_eq_true_eq])
local macro_rules | `(tactic| walk_at "1") => `(tactic| try simp only [turnE, lcT, Snoc, tRet, tRetN, tAndV, tOrV, tNotV, tCB, tCons, tVar, tNil, tC, tOp, tAsg, gName, gSub, tIfS, tDrop, tFn, tTup, tLst, tNext, tB, tTest, tNot, tAnd, tOr, tIf, tChain, tUn, rU, tFld, tPart, tNoPart, L2.tSl, tBM, tPar, tPar3, tTruth, tDNewK,
  L2.start, List.map_cons, List.map_nil, List.length_cons, List.length_nil, List.replicate_succ, List.replicate_zero, List.append_nil, List.nil_append, List.cons_append, List.singleton_append, Nat.sub_self, Nat.zero_add, Nat.reduceAdd, Nat.reduceSub,
  List.getElem?_cons_zero, List.getElem?_cons_succ, List.set_cons_zero, List.set_cons_succ, Option.some.injEq, exists_eq_left, exists_eq_left', V.int.injEq, V.bl.injEq, V.str.injEq, V.ref.injEq,
  uAdd_int, uAdd_str, uSub_int, uMul_int, uMul_str, uDiv_int, uMod_int, uPow_int, uLt_int, uLe_int, uGt_int, uGe_int, uIs_non, uNis_non, uIs_bl, uNis_bl, sp1, sp2, sp3, sp4, uEq_int, uEq_str, uNe_int, uNe_str, uSl_str, uLen_str, decide_eq_true_eq])
local macro_rules | `(tactic| walk_at "s") => `(tactic| ((try dsimp only [turnE]); with_reducible refine seq_ ?_))

include F in
theorem read_numbers_of (h : sp_numbers_of K vs H Q E) : t_numbers_of K E { nx := fun _ H' => Q .non H', rt := Q } (start ["levels", "names", "bound", "level", "name"] vs) H := by
  match vs, h with
  | [_, _, _], ⟨l, fs, B, rfl, rfl, rfl, hl, h61, q⟩ =>
    obtain ⟨ls, l1, l2, l3, _⟩ := hl
    unfold t_numbers_of
    walk_at "1"
    refine tLc_seq (p := l) (xs := ls.map V.ref) (.inl (.inl (.inl l1))) (tVar_eq rfl) fun J G P hG C nC => ?_
    refine lc_freshO P (fun k => .tup (iV (sixB B ((fs[k]?).getD fun _ _ => none)))) nC (by rw [List.length_map, l2]; omega) hG ?_ ?_
    · intro i x H2 Q2 hx s2 go
      rw [List.getElem?_map] at hx
      (obtain ⟨d, hd, rfl⟩ := Option.map_eq_some_iff.mp hx)
      have li : i < fs.length := l2 ▸ (List.getElem?_eq_some_iff.mp hd).1
      have ef : fs[i]? = some fs[i] := List.getElem?_eq_getElem li
      have gd := s2 _ _ (l3 i d _ hd ef)
      rw [ef] at go
      generalize fs[i] = f at gd go
      walk_at "1"
      refine over_ways F (tVar_eq rfl) fun J2 G2 P2 hG2 D nD => ?_
      refine lc_grow P2 (fun acc _ => acc = (waysN.take acc.length).map fun w => V.int ((f w.1 w.2).getD B)) nD (by decide) hG2 (fun _ _ => rfl) (fun _ _ _ _ _ _ z => z) ?_ ?_
      · intro j x acc H3 Q3 hx s3 la r go
        rw [List.getElem?_map] at hx
        obtain ⟨w, hw, rfl⟩ := Option.map_eq_some_iff.mp hx
        obtain ⟨w1, w2, w3⟩ := waysN_ok w (List.mem_of_getElem? hw)
        have fin : Q3 (.int ((f w.1 w.2).getD B)) H3 := go _ H3 (Same.refl _) (by
          rw [List.length_append, List.length_singleton, la, List.take_succ, hw, List.map_append, ← la, ← r]
          rfl)
        have dg := dget_wayD (s3 _ _ gd) w1 w2 w3
        walk_at "1"
        simp only [tDGet]
        walk_at "1"
        refine ⟨d, _, rfl, dg, ?_⟩
        cases e : f w.1 w.2 with
        | none =>
          rw [e] at fin
          rw [if_pos (show pV none = V.non from rfl)]
          exact fin
        | some v =>
          rw [e] at fin dg
          rw [if_neg (by intro z; cases z)]
          exact ⟨d, _, rfl, dg, fin⟩
      · intro acc H3 la s3 gD r
        rw [la, List.length_map, List.take_of_length_le (Nat.le_refl _)] at r
        subst r
        exact ⟨_, .inl ⟨.inl (.inl gD), fun t nt => go t _ (s3.free nt) (s3.trans (same_new nt)) (by
          rw [upd_same]
          unfold sixB six iV
          rw [List.map_map]
          rfl)⟩⟩
    · intro H2 bs s2 hb gC at_ nd nC2 fr
      rw [List.length_map, l2] at hb
      refine q C H2 s2 nC ⟨bs, gC, by rw [List.length_map, hb], fun i b z e1 e2 => .inl (.inl ?_)⟩
      rw [List.getElem?_map] at e2
      obtain ⟨f, ef, rfl⟩ := Option.map_eq_some_iff.mp e2
      rw [at_ i b e1, ef]
      rfl
theorem ys_rows {y : Addr} {rows : List (List (Option Int))} (hy : Yd K H y rows) {t : Addr} (h : Ys K H t rows) : RowsT K H t rows := by
  obtain ⟨as, h1, h2, h3⟩ := h
  obtain ⟨_, _, _, _, _, _, y4, _, _, y7⟩ := id hy
  exact ⟨as, h1, h2, y4, h3, fun r m => (y7 r m).1⟩
include F in
theorem read_bounded_prices (h : sp_bounded_prices K vs H Q E) : t_bounded_prices K E { nx := fun _ H' => Q .non H', rt := Q } (start ["yard", "bound"] vs) H := by
  match vs, h with
  | [_, _], ⟨p, rows, B, rfl, hy, rfl, q⟩ =>
    obtain ⟨dx, t, as, ⟨rk, gy⟩, _⟩ := id hy
    unfold t_bounded_prices
    walk_at "1"
    simp only [tMeth]
    walk_at "1"
    refine ⟨p, dx, _, rfl, gy, rfl, p, rows, rfl, hy, fun t ht => ?_⟩
    exact ⟨t, rows, B, rfl, rfl, ys_rows hy ht, q⟩
/-- [te for u, v in zip(..)] whose items are all True -/
theorem all_trueZ {J : It} {G : Hp → Prop} {xs ys : List V} (Z : Zipped J xs ys G) {te : TE} {u v : Nat} {σ : L2.St} (hw : ∀ x y, wipe (((wipe σ [u, v]).set u (some x)).set v (some y)) [u, v] = wipe σ [u, v]) {D : Addr} {Qd : Hp → Prop} (hD : H D = none) (hl : min xs.length ys.length ≤ 1000) (hG : ∀ H', Same H H' → G H')
    (hs : ∀ (i : Nat) (x y : V) (H2 : Hp) (Q : VK), xs[i]? = some x → ys[i]? = some y → Same H H2 → (∀ H4, Same H2 H4 → Q (.bl true) H4) → te (((wipe σ [u, v]).set u (some x)).set v (some y)) H2 Q)
    (hd : ∀ H2, Same H H2 → H2 D = some (.lst ((List.replicate (min xs.length ys.length) true).map V.bl)) → Qd H2) : LcB J (gTup K 2 (gCons (gName u) (gCons (gName v) gNil))) tYes te [u, v] σ H D Qd := by
  refine lc_zip Z (fun i H' => Same H H' ∧ H' D = some (.lst ((List.replicate i true).map V.bl))) ⟨same_new hD, upd_same⟩ (fun i H' z => hG _ z.1) ?_ (fun H2 z => hd H2 z.1 z.2)
  rintro i x y T H2' hx hy ⟨s2', gD'⟩ nT
  have hi : i < min xs.length ys.length := by
    have h1 := (List.getElem?_eq_some_iff.mp hx).1
    have h2 := (List.getElem?_eq_some_iff.mp hy).1
    omega
  have sT : Same H2' (upd H2' T (.tup [x, y])) := same_new nT
  refine pair_in upd_same ⟨hw x y, ?_⟩
  show te _ _ _
  have s2 := s2'.trans sT
  have gD := sT _ _ gD'
  generalize upd H2' T (.tup [x, y]) = H2 at *
  refine hs i x y H2 _ hx hy s2 fun H4 s4 => ?_
  refine ⟨_, s4 _ _ gD, ?_, (Off.trans (Same.off (s2.trans s4)) off_upd).same hD, ?_⟩
  · rw [List.length_map, List.length_replicate]
    exact Nat.lt_of_lt_of_le (show i < 1001 by omega) (by decide)
  · rw [upd_same, List.replicate_succ', List.map_append]
    rfl
include F in
theorem read_are_within (h : sp_are_within K vs H Q E) : t_are_within K E { nx := fun _ H' => Q .non H', rt := Q } (start ["levels", "limits", "level", "line", "number", "limit"] vs) H := by
  match vs, h with
  | [_, _], ⟨a, b, qs, ls, rfl, rfl, ⟨as, a1, a2, a3⟩, ⟨bs, b1, b2, b3⟩, hq, hl, q6, l6, le, q⟩ =>
    unfold t_are_within
    walk_at "1"
    refine (show tLc _ _ _ _ _ _ H (fun x H1 => rAll K [x] H1 Q) from ?_)
    refine tLc_zipA ?_
    unfold RZ.iZipA
    walk_at "1"
    refine .inl ⟨a, _, rfl, .inl (.inl a1), fun c nc => ?_⟩
    have s1 : Same H (upd H c (.lst (cutV (as.map V.ref) (some 1) none))) := same_new nc
    have gc : upd H c (.lst (cutV (as.map V.ref) (some 1) none)) c = some (.lst ((as.drop 1).map V.ref)) := by
      rw [upd_same]
      congr 2
      unfold cutV
      rw [HT.sIx_none, show (1 : Int) = ((1 : Nat) : Int) from rfl, HT.sIx_nat, List.map_drop, List.take_of_length_le (by simp)]
      rcases Nat.lt_or_ge as.length 1 with z | z
      · rw [show as = [] from List.length_eq_zero_iff.mp (by omega)]
        rfl
      · rw [show min 1 (as.map V.ref).length = 1 by rw [List.length_map]; omega]
    generalize upd H c (.lst (cutV (as.map V.ref) (some 1) none)) = H1 at *
    refine ⟨c, b, _, _, rfl, .inl ⟨.inl (.inl gc), .inl (.inl (s1 _ _ b1)), fun D nD => ?_⟩⟩
    refine all_trueZ (zipped_LL (K := K) (a := c) (b := b) (xs := (as.drop 1).map V.ref) (ys := bs.map V.ref)) (fun x y => rfl) nD (by rw [List.length_map, List.length_map, b2]; omega) (fun H' s => ⟨.inl (.inl (s _ _ gc)), .inl (.inl (s _ _ (s1 _ _ b1)))⟩) ?_ fun H2 s2 gD => all_rep gD (q H2 (s1.trans s2))
    intro k x y H2 Q2 hx hy s2 go
    rw [List.getElem?_map] at hx hy
    (obtain ⟨d, hd, rfl⟩ := Option.map_eq_some_iff.mp hx)
    obtain ⟨e, he, rfl⟩ := Option.map_eq_some_iff.mp hy
    rw [List.getElem?_drop, Nat.add_comm] at hd
    have lk : k + 1 < qs.length := a2 ▸ (List.getElem?_eq_some_iff.mp hd).1
    have lb : k < ls.length := b2 ▸ (List.getElem?_eq_some_iff.mp he).1
    have eq_ : qs[k + 1]? = some qs[k + 1] := List.getElem?_eq_getElem lk
    have el : ls[k]? = some ls[k] := List.getElem?_eq_getElem lb
    have td := Same.sqT (s1.trans s2) (a3 _ d _ hd eq_)
    have te := Same.sqT (s1.trans s2) (b3 _ e _ he el)
    have q6' := q6 _ (List.getElem_mem lk)
    have l6' := l6 _ (List.getElem_mem lb)
    generalize qs[k + 1] = u at *
    generalize ls[k] = v at *
    have le' := fun i a b => le k u v i a b eq_ el
    walk_at "1"
    refine (show tLc _ _ _ _ _ _ H2 (fun x H1 => rAll K [x] H1 Q2) from ?_)
    refine tLc_zipA ?_
    unfold RZ.iZipA
    simp only [wipe, List.set_cons_zero, List.set_cons_succ]
    walk_at "1"
    refine ⟨d, e, _, _, rfl, .inr ⟨td, te, fun C nC => ?_⟩⟩
    refine all_trueZ (zipped_TT (K := K) (a := d) (b := e) (xs := iV u) (ys := iV v)) (fun x y => rfl) nC (by unfold iV; rw [List.length_map, List.length_map, q6', l6']; decide) (fun H' s => ⟨Same.sqT s td, Same.sqT s te⟩) ?_ fun H3 s3 gC => all_rep gC (go H3 s3)
    intro i x y H3 Q3 hx hy s3 go
    unfold iV at hx hy
    rw [List.getElem?_map] at hx hy
    obtain ⟨m, hm, rfl⟩ := Option.map_eq_some_iff.mp hx
    obtain ⟨n, hn, rfl⟩ := Option.map_eq_some_iff.mp hy
    simp only [wipe, List.set_cons_zero, List.set_cons_succ]
    walk_at "1"
    show Q3 (.bl (decide (m ≤ n))) H3
    rw [decide_eq_true (le' i m n hm hn)]
    exact go H3 (Same.refl _)
/-- the costs of a level's dict -/
def lvO (f : Lvl) : List (Option Int) := waysN.map fun w => f w.1 w.2
theorem wayD_vals (f : Lvl) : (wayD f).map (fun p => p.2) = (lvO f).map pV := by
  unfold wayD lvO
  (rw [List.map_map, List.map_map])
  rfl
def knownI (os : List (Option Int)) : List Int := os.filterMap id
def allI (fs : List Lvl) : List Int := fs.flatMap fun f => knownI (lvO f)
theorem allI_len : ∀ fs : List Lvl, (allI fs).length ≤ 6 * fs.length
  | [] => Nat.le_refl _
  | f :: r => by
    have ih := allI_len r
    have h1 : (knownI (lvO f)).length ≤ 6 := List.length_filterMap_le _ _
    have e : allI (f :: r) = knownI (lvO f) ++ allI r := rfl
    (rw [e, List.length_append, List.length_cons])
    omega
theorem allI_snoc {fs : List Lvl} {k : Nat} {f : Lvl} (h : fs[k]? = some f) : allI (fs.take (k + 1)) = allI (fs.take k) ++ knownI (lvO f) := by
  unfold allI
  rw [List.take_succ, h, List.flatMap_append]
  simp
theorem mem_allI {fs : List Lvl} {f : Lvl} {i j : Nat} {v : Int} (m : f ∈ fs) (hi : i < 3) (hj : j < 3) (n : i ≠ j) (e : f i j = some v) : v ∈ allI fs := by
  refine List.mem_flatMap.mpr ⟨f, m, List.mem_filterMap.mpr ⟨some v, List.mem_map.mpr ⟨(i, j), ?_, e⟩, rfl⟩⟩
  rcases (show i = 0 ∧ j = 1 ∨ i = 0 ∧ j = 2 ∨ i = 1 ∧ j = 0 ∨ i = 1 ∧ j = 2 ∨ i = 2 ∧ j = 0 ∨ i = 2 ∧ j = 1 by omega) with ⟨rfl, rfl⟩ | ⟨rfl, rfl⟩ | ⟨rfl, rfl⟩ | ⟨rfl, rfl⟩ | ⟨rfl, rfl⟩ | ⟨rfl, rfl⟩ <;> decide
include F R in
theorem read_bound_beyond (h : sp_bound_beyond K vs H Q E) : t_bound_beyond K E { nx := fun _ H' => Q .non H', rt := Q } (start ["yard", "lists", "costs", "levels", "level", "cost"] vs) H := by
  match vs, h with
  | [_, _], ⟨p, rows, L, l, fs, rfl, rfl, hy, gL, hl, h61, ⟨f0, e0, z0⟩, q⟩ =>
    obtain ⟨ds, l1, l2, l3, nd⟩ := hl
    have at_ : ∀ d ∈ ds, ∃ f, H d = some (.dK (wayD f)) := fun d m => by
      obtain ⟨k, lt, rfl⟩ := List.mem_iff_getElem.mp m
      have lf : k < fs.length := l2 ▸ lt
      exact ⟨_, l3 k _ _ (List.getElem?_eq_getElem lt) (List.getElem?_eq_getElem lf)⟩
    unfold t_bound_beyond
    walk_at "s"
    refine ⟨ds.length, locks ds nd (fun d m => (at_ d m).imp' _ fun f e => e) fun D1 H1 o1 k1 q1 => ?_⟩
    have nL : L ∉ ds := fun m => by
      obtain ⟨f, e⟩ := at_ L m
      rw [gL] at e
      cases e
    have nl : l ∉ ds := fun m => by
      obtain ⟨f, e⟩ := at_ l m
      rw [l1] at e
      cases e
    have gL1 : H1 L = some (.lst [.ref l]) := (o1 L nL).trans gL
    have gl1 : H1 l = some (.lst (ds.map V.ref)) := (o1 l nl).trans l1
    walk_at "1"
    refine .inl ?_
    walk_at "1"
    refine ⟨.ref L, rfl, L, rfl, ⟨_, .inl (.inl gL1)⟩, fun C nC => ?_⟩
    refine clap_plain (plain_L (K := K) (a := L) (xs := [.ref l])) (fun i H' => Same H1 H' ∧ H' C = some (.lst ((if i = 0 then [] else allI fs).map V.int))) ⟨same_new nC, upd_same⟩ (fun i H' z => .inl (.inl (z.1 _ _ gL1))) ?_ ?_
    · rintro i x H2 hx ⟨s2, gC⟩
      match i, hx with
      | 0, hx =>
        cases hx
        simp only [wipe, List.set_cons_zero, List.set_cons_succ]
        walk_at "1"
        refine ⟨trivial, ?_⟩
        simp only [tYes, if_true]
        refine .inl ?_
        walk_at "1"
        refine ⟨.ref l, rfl, l, rfl, ⟨_, .inl (.inl (s2 _ _ gl1))⟩, ?_⟩
        have few : ∀ k, (allI (fs.take k)).length ≤ 366 := fun k => by
          have h1 := allI_len (fs.take k)
          have h2 : (fs.take k).length ≤ fs.length := List.length_take_le' _ _
          omega
        refine clap_plain (plain_L (K := K) (a := l) (xs := ds.map V.ref)) (fun k H' => Same H1 H' ∧ H' C = some (.lst ((allI (fs.take k)).map V.int))) ⟨s2, gC⟩ (fun k H' z => .inl (.inl (z.1 _ _ gl1))) ?_ ?_
        · rintro k x H3 hx ⟨s3, gC3⟩
          rw [List.getElem?_map] at hx
          (obtain ⟨d, hd, rfl⟩ := Option.map_eq_some_iff.mp hx)
          have lk : k < fs.length := l2 ▸ (List.getElem?_eq_some_iff.mp hd).1
          have ef : fs[k]? = some fs[k] := List.getElem?_eq_getElem lk
          obtain ⟨kv, od, hk1, hk2⟩ := k1 d (List.mem_of_getElem? hd)
          rw [l3 k d _ hd ef] at hk1
          cases hk1
          have few := few k
          have snoc := allI_snoc ef
          generalize fs[k] = f at *
          simp only [wipe, List.set_cons_zero, List.set_cons_succ]
          walk_at "1"
          refine ⟨trivial, ?_⟩
          simp only [tYes, if_true]
          refine ⟨.ref d, rfl, d, od, _, rfl, s3 _ _ hk2, ?_⟩
          refine clap_plain (plain_Vd (d := d) (o := od) (kvs := wayD f)) (fun j H' => Same H1 H' ∧ H' C = some (.lst ((allI (fs.take k) ++ knownI ((lvO f).take j)).map V.int))) ⟨s3, by rw [gC3]; simp [knownI]⟩ (fun j H' z => z.1 _ _ hk2) ?_ ?_
          · rintro j x H4 hx ⟨s4, gC4⟩
            rw [wayD_vals, List.getElem?_map] at hx
            obtain ⟨o, ho, rfl⟩ := Option.map_eq_some_iff.mp hx
            have tk : (lvO f).take (j + 1) = (lvO f).take j ++ [o] := by rw [List.take_succ, ho]; rfl
            simp only [wipe, List.set_cons_zero, List.set_cons_succ]
            walk_at "1"
            refine ⟨trivial, ?_⟩
            cases o with
            | none =>
              refine ⟨s4, ?_⟩
              rw [tk]
              simpa [knownI] using gC4
            | some v =>
              refine ⟨_, gC4, ?_, (Off.trans (Same.off s4) off_upd).same nC, ?_⟩
              · have h6 : (knownI ((lvO f).take j)).length ≤ 6 := Nat.le_trans (List.length_filterMap_le _ _) (Nat.le_trans (List.length_take_le' _ _) (Nat.le_refl 6))
                rw [List.length_map, List.length_append]
                exact Nat.lt_of_lt_of_le (show _ < 373 by omega) (by decide)
              · rw [upd_same, tk]
                simp [knownI]
                rfl
          · rintro H4 ⟨s4, gC4⟩
            refine ⟨s4, ?_⟩
            have tl : (lvO f).take (wayD f).length = lvO f := List.take_of_length_le (show 6 ≤ 6 from Nat.le_refl 6)
            rw [gC4, snoc, List.length_map, tl]
        · rintro H3 ⟨s3, gC3⟩
          refine ⟨s3, ?_⟩
          rw [List.length_map, l2, List.take_length] at gC3
          exact gC3
    · rintro H2 ⟨s2, gC⟩
      have gC : H2 C = some (.lst ((allI fs).map V.int)) := gC
      have nCd : C ∉ ds := fun m => by
        obtain ⟨kv, od, _, hk2⟩ := k1 C m
        rw [hk2] at nC
        cases nC
      refine q1 _ H2 (fun d m => ?_) fun Hu u1 u2 => ?_
      · obtain ⟨kv, od, _, hk2⟩ := k1 d m
        rw [hk2, s2 _ _ hk2]
      have sU : Same H Hu := fun b o e => by
        by_cases m : b ∈ ds
        · rw [u2 b m]
          exact e
        · rw [u1 b m]
          exact s2 _ _ ((o1 b m).trans e)
      have gCu : Hu C = some (.lst ((allI fs).map V.int)) := (u1 C nCd).trans gC
      have hyU := hy.same sU
      obtain ⟨⟨_, _, _, _, _, _, y4, _⟩, _, dx, t, rk, gy, _⟩ := id hyU
      walk_at "1"
      refine ⟨.ref p, rfl, p, dx, _, rfl, gy, rfl, p, rows, rfl, hyU, fun a H3 o3 hy3 ra yr old sm => ?_⟩
      obtain ⟨g, lp, lt, hg, ⟨da, bk, ga, kb⟩, _⟩ := id ra
      have gC3 : H3 C = some (.lst ((allI fs).map V.int)) := o3 _ _ (by rintro rfl; rw [gy] at gCu; cases gCu) gCu
      have m0 : (0 : Int) ∈ allI fs := mem_allI (List.mem_of_getElem? e0) (by decide) (by decide) (by decide) z0
      refine ⟨a, _, da, _, .int (g * 4 ^ rows.length), rfl, ga, R.cl, R.bound, rfl, ?_⟩
      refine ⟨C, allI fs, rfl, .inl (.inl gC3), List.length_pos_of_mem m0, fun m mm top => ?_⟩
      walk_at "1"
      obtain ⟨_, _, _, gp, _⟩ := hy.2.2
      exact ⟨.inl ⟨by decide, by decide⟩, q g m H3 hg (fun f mf i j v hi hj n e => top v (mem_allI mf hi hj n e)) (top 0 m0) ((Mild.of_same gp sU).trans (mild_reck gy o3 yr old sm)) hy3⟩
end
end U
namespace U
open PySem PySem.Spec PyProof.Rows L2

/-- all that is asked of tables that a yard tells -/
def OwnT (K : PySem.W.Frag) (H : Hp) (y l : Addr) (rows : List (List (Option Int))) : Prop := YdK K H y rows ∧ LvT H l (ownL rows)
/-- no paper of a yard, at first sight -/
def NoPap (K : PySem.W.Frag) (H : Hp) (n : Nat) (x : V) : Prop := x = .non ∨ ∃ p xs, x = .ref p ∧ (SqL K H p xs ∧ xs.length ≠ n + 1)
def sp_are_within_lines_levels (K : PySem.W.Frag) : Sp := sp2 fun y x H Q _ => ∃ p rows l, y = .ref p ∧ x = .ref l ∧ OwnT K H p l rows ∧ ∀ H', Mild K p H H' → YdK K H' p rows → Q (.bl true) H'
def sp_is_paper (K : PySem.W.Frag) : Sp := sp2 fun y x H Q E => BadY K H y E ∨ ∃ p rows, y = .ref p ∧ ((YdK K H p rows ∧ (NoPap K H rows.length x ∧ ∀ H', Same H H' → Q (.bl false) H')) ∨ ∃ l, x = .ref l ∧ (OwnT K H p l rows ∧ ∀ H', Mild K p H H' → YdK K H' p rows → Q (.bl true) H'))
def sp_told_cost (K : PySem.W.Frag) : Sp := sp3 fun y x z H Q E => BadY K H y E ∨ ∃ p rows, y = .ref p ∧ ((YdK K H p rows ∧ (NoPap K H rows.length x ∧ Rz K "InvalidPaper" "value" x H E)) ∨ ∃ l, x = .ref l ∧ (OwnT K H p l rows ∧ ∀ H', Mild K p H H' → YdK K H' p rows → BadW K H' z E))
def t_are_within_lines_levels (K : PySem.W.Frag) (E : XK) : TS := (tSeq (tAsg (tFn (sp_bound_beyond K) E (tCons (tVar 0) (tCons (tLst (tCons (tVar 1) tNil)) tNil))) (gName 2)) (tSeq (tAsg (tFn (sp_numbers_of K) E (tCons (tVar 1) (tCons (tC (.ref (He.ga K "WAYS"))) (tCons (tVar 2) tNil)))) (gName 3)) (tSeq (tAsg (tFn (sp_bounded_prices K) E (tCons (tVar 0) (tCons (tVar 2) tNil))) (gName 4)) (tRet (tFn (sp_are_within K) E (tCons (tVar 3) (tCons (tLc (iZipV K (tCons (tVar 4) (tCons (tVar 3) tNil))) (gTup K 2 (gCons (gName 5) (gCons (gName 6) gNil))) tYes (tFn (sp_towers_above K) E0 (tCons (tVar 5) (tCons (tVar 6) tNil))) [5, 6]) tNil)))))))
def t_is_paper (K : PySem.W.Frag) (E : XK) : TS := (tSeq (tDrop (tFn (sp_check_yard K) E (tCons (tVar 0) tNil))) (tRet (tAndV (tFn (sp_are_levels K) E (tCons (tVar 1) (tCons (tOp uAdd (tCB (rLenO (He.ga K "Yard") (sp_Yard_len K)) (tCons (tVar 0) tNil)) (tC (.int 1))) (tCons (tC (.ref (He.ga K "WAYS"))) tNil)))) (tFn (sp_are_within_lines_levels K) E (tCons (tVar 0) (tCons (tVar 1) tNil))))))
def t_told_cost (K : PySem.W.Frag) (E : XK) : TS := (tSeq (tIfS (tNot (tB (tFn (sp_is_paper K) E (tCons (tVar 0) (tCons (tVar 1) tNil))))) (tRse K "InvalidPaper" "value" E (tCons (tVar 1) tNil)) tNext) (tSeq (tDrop (tFn (sp_check_way K) E (tCons (tVar 2) tNil))) (tRet (tDGet (tOp (uIx K) (tVar 1) (tUn (rU fun i => .int (-i)) (tC (.int 1)))) (tVar 2)))))
section
variable {K : PySem.W.Frag} (F : KF K) (R : KR K) {vs : List V} {H : Hp} {Q : VK} {E : XK}
local macro_rules | `(tactic| walk_at "w") => `(tactic| try simp only [turnE, lcT, Snoc, tRet, tRetN, tAndV, tOrV, tNotV, tCB, tCons, tVar, tNil, tC, tOp, tSeq, tAsg, gName, gSub, tIfS, tDrop, tFn, tTup, tLst, tNext, tB, tTest, tNot, tAnd, tOr, tIf, tChain, tUn, rU, tFld, tPart, tNoPart, L2.tSl, tBM, tPar, tPar3, tTruth, tDNewK,
  L2.start, List.map_cons, List.map_nil, List.length_cons, List.length_nil, List.replicate_succ, List.replicate_zero, List.append_nil, List.nil_append, List.cons_append, List.singleton_append, Nat.sub_self, Nat.zero_add, Nat.reduceAdd, Nat.reduceSub,
  List.getElem?_cons_zero, List.getElem?_cons_succ, List.set_cons_zero, List.set_cons_succ, Option.some.injEq, exists_eq_left, exists_eq_left', V.int.injEq, V.bl.injEq, V.str.injEq, V.ref.injEq,
  uAdd_int, uAdd_str, uSub_int, uMul_int, uMul_str, uDiv_int, uMod_int, uPow_int, uLt_int, uLe_int, uGt_int, uGe_int, uIs_non, uNis_non, uIs_bl, uNis_bl, sp1, sp2, sp3, sp4, uEq_int, uEq_str, uNe_int, uNe_str, uSl_str, uLen_str, decide_eq_true_eq])
local macro_rules | `(tactic| walk_at "1") => `(tactic| try simp only [turnE, lcT, Snoc, tRet, tRetN, tAndV, tOrV, tNotV, tCB, tCons, tVar, tNil, tC, tOp, tAsg, gName, gSub, tIfS, tDrop, tFn, tTup, tLst, tNext, tB, tTest, tNot, tAnd, tOr, tIf, tChain, tUn, rU, tFld, tPart, tNoPart, L2.tSl, tBM, tPar, tPar3, tTruth, tDNewK,
  L2.start, List.map_cons, List.map_nil, List.length_cons, List.length_nil, List.replicate_succ, List.replicate_zero, List.append_nil, List.nil_append, List.cons_append, List.singleton_append, Nat.sub_self, Nat.zero_add, Nat.reduceAdd, Nat.reduceSub,
  List.getElem?_cons_zero, List.getElem?_cons_succ, List.set_cons_zero, List.set_cons_succ, Option.some.injEq, exists_eq_left, exists_eq_left', V.int.injEq, V.bl.injEq, V.str.injEq, V.ref.injEq,
  uAdd_int, uAdd_str, uSub_int, uMul_int, uMul_str, uDiv_int, uMod_int, uPow_int, uLt_int, uLe_int, uGt_int, uGe_int, uIs_non, uNis_non, uIs_bl, uNis_bl, sp1, sp2, sp3, sp4, uEq_int, uEq_str, uNe_int, uNe_str, uSl_str, uLen_str, decide_eq_true_eq])
local macro_rules | `(tactic| walk_at "s") => `(tactic| ((try dsimp only [turnE]); with_reducible refine seq_ ?_))

theorem sixB_fn (B : Int) (f : Lvl) {i j : Nat} (hi : i < 3) (hj : j < 3) (n : i ≠ j) : fnOf (sixB B f) i j = (f i j).getD B := by
  rcases (show i = 0 ∧ j = 1 ∨ i = 0 ∧ j = 2 ∨ i = 1 ∧ j = 0 ∨ i = 1 ∧ j = 2 ∨ i = 2 ∧ j = 0 ∨ i = 2 ∧ j = 1 by omega) with ⟨rfl, rfl⟩ | ⟨rfl, rfl⟩ | ⟨rfl, rfl⟩ | ⟨rfl, rfl⟩ | ⟨rfl, rfl⟩ | ⟨rfl, rfl⟩ <;> rfl
theorem rowI_stands {rows : List (List (Option Int))} {g B M : Int} (hg : Great rows g) (h6 : ∀ r ∈ rows, r.length = 6) (hM : g ≤ M) {r : List (Option Int)} (mr : r ∈ rows) {i j : Nat} (hi : i < 3) (hj : j < 3) (n : i ≠ j) : Stands B M (prF r i j) (fnOf (rowI B r) i j) := by
  have l6 := h6 r mr
  have c6 : colN i j < r.length := by
    rw [l6]
    unfold colN
    split <;> omega
  unfold prF fnOf rowI
  rw [List.getElem?_map, List.getElem?_eq_getElem c6]
  have mo : r[colN i j] ∈ r := List.getElem_mem c6
  generalize r[colN i j] = o at *
  cases o with
  | none => exact Int.le_refl _
  | some v =>
    have mp : v ∈ priced rows := List.mem_flatMap.mpr ⟨r, mr, List.mem_filterMap.mpr ⟨some v, mo, rfl⟩⟩
    have := hg.2.2 v mp
    exact ⟨rfl, Int.le_of_lt this.1, Int.le_trans this.2 hM⟩
include F in
theorem read_are_within_lines_levels (h : sp_are_within_lines_levels K vs H Q E) : t_are_within_lines_levels K E { nx := fun _ H' => Q .non H', rt := Q } (start ["yard", "paper", "bound", "levels", "prices", "six", "below"] vs) H := by
  match vs, h with
  | [_, _], ⟨p, rows, l, rfl, rfl, ⟨hy, hl⟩, q⟩ =>
    have h6 := len6_of hy.1
    have h60 : rows.length ≤ 60 := by
      obtain ⟨⟨_, _, _, _, _, _, y4, _⟩, _⟩ := hy
      exact y4
    unfold t_are_within_lines_levels
    walk_at "s"
    walk_at "1"
    refine ⟨by decide, fun L nL => ?_⟩
    have s1 : Same H (upd H L (.lst [.ref l])) := same_new nL
    have gL : upd H L (.lst [.ref l]) L = some (.lst [.ref l]) := upd_same
    generalize upd H L (.lst [.ref l]) = H1 at *
    refine ⟨p, rows, L, l, ownL rows, rfl, rfl, hy.same s1, gL, hl.same s1, by rw [ownL_len]; omega, ⟨towO rows 0, ownL_at (Nat.zero_le _), rfl⟩, fun g M H2 hg top hM m2 hy2 => ?_⟩
    have hl2 : LvT H2 l (ownL rows) := by
      obtain ⟨ls, l1, l2, l3, l4⟩ := hl.same s1
      exact ⟨ls, m2.fl _ _ (fun _ _ _ z => nomatch z) l1, l2, fun k d f a b => m2.fl _ _ (fun _ _ _ z => nomatch z) (l3 k d f a b), l4⟩
    obtain ⟨_, _, _, gp, _⟩ := hy.2.2
    have m02 : Mild K p H H2 := (Mild.of_same gp s1).trans m2
    generalize hB : g * 4 ^ rows.length + 3 * M = B
    have pos : (0 : Int) ≤ g * 4 ^ rows.length := Int.mul_nonneg (Int.le_of_lt hg.1) (Int.pow_nonneg (by decide))
    have B0 : 0 ≤ B := by omega
    have MB : M ≤ B := by omega
    walk_at "s"
    walk_at "1"
    refine ⟨l, ownL rows, B, rfl, rfl, rfl, hl2, by rw [ownL_len]; omega, fun a H3 s3 na ha => ?_⟩
    walk_at "s"
    walk_at "1"
    refine ⟨p, rows, B, rfl, (hy2.same s3).1, rfl, fun b H4 s4 nb hb => ?_⟩
    have ha4 := ha.same s4
    obtain ⟨bs, b1, b2, b3⟩ := id hb
    obtain ⟨as, a1, a2, a3⟩ := id ha4
    have lb : bs.length = rows.length := by rw [b2, List.length_map, List.length_reverse]
    have la : as.length = rows.length + 1 := by rw [a2, List.length_map, ownL_len]
    have mi : min (bs.map V.ref).length (as.map V.ref).length = rows.length := by rw [List.length_map, List.length_map, lb, la]; omega
    walk_at "1"
    refine tLc_zipA ?_
    unfold RZ.iZipA
    walk_at "1"
    refine ⟨b, a, _, _, rfl, .inl ⟨.inl (.inl b1), .inl (.inl a1), fun D hD => ?_⟩⟩
    let lim : Nat → List Int := fun k => six (stepN (fnOf (rowI B ((rows.reverse[k]?).getD []))) (fnOf (sixB B (towO rows k))))
    refine lc_freshZ (K := K) (zipped_LL (K := K) (a := b) (b := a) (xs := bs.map V.ref) (ys := as.map V.ref)) (fun k => .tup (iV (lim k))) (fun x z => rfl) hD (by rw [mi]; omega) (fun H' s => ⟨.inl (.inl (s _ _ b1)), .inl (.inl (s _ _ a1))⟩) ?_ ?_
    · intro k x z H5 Q5 hx hz s5 go
      rw [List.getElem?_map] at hx hz
      obtain ⟨c, hc, rfl⟩ := Option.map_eq_some_iff.mp hx
      obtain ⟨d, hd, rfl⟩ := Option.map_eq_some_iff.mp hz
      have lk : k < rows.length := by rw [← lb]; exact (List.getElem?_eq_some_iff.mp hc).1
      have er : rows.reverse[k]? = some (rows.reverse[k]'(by rw [List.length_reverse]; exact lk)) := List.getElem?_eq_getElem _
      have tb := Same.sqT s5 (b3 k c (rowI B ((rows.reverse[k]?).getD [])) hc (by rw [List.getElem?_map, er]; rfl))
      have tc := Same.sqT s5 (a3 k d (sixB B (towO rows k)) hd (by rw [List.getElem?_map, ownL_at (by omega)]; rfl))
      have m6 : (rowI B ((rows.reverse[k]?).getD [])).length = 6 := by
        unfold rowI
        rw [List.length_map, er]
        exact h6 _ (List.mem_reverse.mp (List.getElem_mem _))
      simp only [wipe, List.set_cons_zero, List.set_cons_succ]
      walk_at "1"
      exact ⟨c, d, fnOf (rowI B ((rows.reverse[k]?).getD [])), fnOf (sixB B (towO rows k)), rfl, rfl, by rw [six_fn m6]; exact tb, by rw [six_fn (by rfl)]; exact tc, fun l H6 s6 nl gl => go l H6 nl s6 gl⟩
    · intro H5 ls s5 hll gD at_ nd nD fr
      rw [mi] at hll
      refine ⟨a, D, (ownL rows).map (sixB B), (List.range rows.length).map lim, rfl, rfl, ha4.same s5, ⟨ls, gD, by rw [hll, List.length_map, List.length_range], fun k c z e1 e2 => ?_⟩, by rw [List.length_map, ownL_len]; omega, by rw [List.length_map, List.length_range]; omega, ?_, ?_, ?_, fun H6 s6 => ?_⟩
      · rw [List.getElem?_map] at e2
        obtain ⟨k', hk', rfl⟩ := Option.map_eq_some_iff.mp e2
        have := (List.getElem?_eq_some_iff.mp hk').2
        rw [List.getElem_range] at this
        subst this
        exact .inl (.inl (at_ k c e1))
      · intro z m
        obtain ⟨f, _, rfl⟩ := List.mem_map.mp m
        rfl
      · intro z m
        obtain ⟨k, _, rfl⟩ := List.mem_map.mp m
        rfl
      · intro k u v i x y e1 e2 e3 e4
        rw [List.getElem?_map] at e1 e2
        obtain ⟨f, hf, rfl⟩ := Option.map_eq_some_iff.mp e1
        obtain ⟨k', hk', rfl⟩ := Option.map_eq_some_iff.mp e2
        have := (List.getElem?_eq_some_iff.mp hk')
        have lk : k < rows.length := by have := this.1; rw [List.length_range] at this; exact this
        have ek := this.2
        rw [List.getElem_range] at ek
        subst ek
        have ef := ownL_at (rows := rows) (k := k + 1) (by omega)
        rw [hf] at ef
        cases ef
        have er : rows.reverse[k]? = some (rows.reverse[k]'(by rw [List.length_reverse]; exact lk)) := List.getElem?_eq_getElem _
        have mr : rows.reverse[k]'(by rw [List.length_reverse]; exact lk) ∈ rows := List.mem_reverse.mp (List.getElem_mem _)
        have e4 : (six (stepN (fnOf (rowI B ((rows.reverse[k]?).getD []))) (fnOf (sixB B (towO rows k)))))[i]? = some y := e4
        rw [towO_succ er] at e3 hf
        rw [er] at e4
        generalize rows.reverse[k]'(by rw [List.length_reverse]; exact lk) = r at *
        unfold sixB six at e3
        unfold six at e4
        rw [List.getElem?_map] at e3 e4
        obtain ⟨w, hw, rfl⟩ := Option.map_eq_some_iff.mp e3
        rw [hw] at e4
        have e4 := Option.some.inj e4
        subst e4
        obtain ⟨w1, w2, w3⟩ := waysN_ok w (List.mem_of_getElem? hw)
        have good := ownL_good hg h6
        have mem : ∀ j, j ≤ rows.length → towO rows j ∈ ownL rows := fun j hj => List.mem_of_getElem? (ownL_at hj)
        have gM : g ≤ g + M := by omega
        refine step_within (M := g + M) B0 (fun i j hi hj n => rowI_stands hg h6 gM mr hi hj n) (fun i j hi hj n => ?_) w1 w2 w3 fun v e => ?_
        · rw [sixB_fn B _ hi hj n]
          refine stands_getD fun v e => ⟨good _ (mem k (by omega)) i j v hi hj n e, ?_⟩
          have := top _ (mem k (by omega)) i j v hi hj n e
          have := hg.1
          omega
        · rw [← towO_succ er] at e
          exact Int.le_trans (top _ (mem (k + 1) (by omega)) w.1 w.2 v w1 w2 w3 e) MB
      · have s26 := ((s3.trans s4).trans s5).trans s6
        obtain ⟨_, _, _, gp2, _⟩ := hy2.2.2
        exact q H6 (m02.trans (Mild.of_same gp2 s26)) (hy2.same s26)
theorem great_of {rows : List (List (Option Int))} (h : PricesOk rows) : Great rows (10 ^ 33 - 1) := ⟨by decide, by decide, fun p m => ⟨(h p m).1, Int.le_sub_one_of_lt (h p m).2⟩⟩
theorem own_lv {H' : Hp} {l : Addr} {rows : List (List (Option Int))} (h : Tables H H' l rows) : LvT H' l (ownL rows) := by
  obtain ⟨ls, h1, h2, h3, h4, _⟩ := h
  refine ⟨ls, h1, by rw [h2, ownL_len], fun k d f a b => ?_, h4⟩
  have lk : k ≤ rows.length := by
    have := (List.getElem?_eq_some_iff.mp a).1
    omega
  rw [ownL_at lk] at b
  cases b
  exact h3 k d a
theorem LvT.flt {H' : Hp} {l : Addr} {fs : List Lvl} (h : LvT H l fs) (m : ∀ b o, (∀ C dx gs, o ≠ .ins C dx gs) → H b = some o → H' b = some o) : LvT H' l fs := by
  obtain ⟨ls, l1, l2, l3, l4⟩ := h
  exact ⟨ls, m _ _ (fun _ _ _ z => nomatch z) l1, l2, fun k d f a b => m _ _ (fun _ _ _ z => nomatch z) (l3 k d f a b), l4⟩
include F in
theorem read_is_paper (h : sp_is_paper K vs H Q E) : t_is_paper K E { nx := fun _ H' => Q .non H', rt := Q } (start ["yard", "value"] vs) H := by
  match vs, h with
  | [_, _], .inl bad =>
    unfold t_is_paper
    walk_at "s"
    walk_at "1"
    exact bad.chk
  | [_, x], .inr ⟨p, rows, rfl, .inl ⟨hy, np, q⟩⟩ =>
    obtain ⟨_, _, dx, t, rk, gy, _⟩ := id hy
    unfold t_is_paper
    walk_at "s"
    walk_at "1"
    refine ⟨.yard, is_yard F gy, fun _ => ?_, fun z => (z rfl).elim⟩
    walk_at "1"
    have y4 : rows.length ≤ 60 := by
      obtain ⟨⟨_, _, _, _, _, _, y4, _⟩, _⟩ := hy
      exact y4
    refine ⟨p, dx, _, rfl, gy, p, rows, rfl, hy.1, _, rfl, by omega, by omega, ?_⟩
    walk_at "1"
    rcases np with rfl | ⟨r, xs, rfl, hr, ne⟩
    · exact ⟨rfl, .inl ⟨rfl, fun H1 s1 => ⟨false, rfl, q H1 s1⟩⟩⟩
    · exact ⟨rfl, .inr (.inl ⟨r, xs, rfl, _, rfl, hr, by omega, fun H1 s1 => ⟨false, rfl, q H1 s1⟩⟩)⟩
  | [_, _], .inr ⟨p, rows, rfl, .inr ⟨l, rfl, ⟨hy, hl⟩, q⟩⟩ =>
    obtain ⟨⟨_, _, _, _, _, _, y4, _⟩, _, dx, t, rk, gy, _⟩ := id hy
    unfold t_is_paper
    walk_at "s"
    walk_at "1"
    refine ⟨.yard, is_yard F gy, fun _ => ?_, fun z => (z rfl).elim⟩
    walk_at "1"
    refine ⟨p, dx, _, rfl, gy, p, rows, rfl, hy.1, _, rfl, by omega, by omega, ?_⟩
    walk_at "1"
    obtain ⟨g, hg, h6⟩ : ∃ g, Great rows g ∧ ∀ r ∈ rows, r.length = 6 := ⟨_, great_of hy.2.1, len6_of hy.1⟩
    refine ⟨rfl, .inr (.inr ⟨l, ownL rows, rfl, by rw [ownL_len]; rfl, hl, by rw [ownL_len]; omega, ownL_good hg h6, ⟨towO rows 0, ownL_at (Nat.zero_le _), fun _ _ _ _ _ => rfl⟩, fun H1 s1 => ⟨true, rfl, ?_⟩⟩)⟩
    rw [if_pos rfl]
    refine ⟨p, rows, l, rfl, rfl, ⟨hy.same s1, hl.same s1⟩, fun H2 m2 hy2 => q H2 ((Mild.of_same gy s1).trans m2) hy2⟩
include F in
theorem read_told_cost (h : sp_told_cost K vs H Q E) : t_told_cost K E { nx := fun _ H' => Q .non H', rt := Q } (start ["yard", "paper", "way"] vs) H := by
  match vs, h with
  | [_, _, _], .inl bad =>
    unfold t_told_cost
    walk_at "s"
    walk_at "1"
    exact .inl bad
  | [_, x, _], .inr ⟨p, rows, rfl, .inl ⟨hy, np, rz⟩⟩ =>
    unfold t_told_cost
    walk_at "s"
    walk_at "1"
    refine .inr ⟨p, rows, rfl, .inl ⟨hy, np, fun H1 s1 => ⟨_, rfl, ?_⟩⟩⟩
    rw [if_pos (by decide)]
    exact rse_var rfl (Rz.same s1 rz)
  | [_, _, _], .inr ⟨p, rows, rfl, .inr ⟨l, rfl, ⟨hy, hl⟩, bad⟩⟩ =>
    unfold t_told_cost
    walk_at "s"
    walk_at "1"
    refine .inr ⟨p, rows, rfl, .inr ⟨l, rfl, ⟨hy, hl⟩, fun H1 m1 hy1 => ⟨_, rfl, ?_⟩⟩⟩
    rw [if_neg (by decide)]
    walk_at "s"
    walk_at "1"
    exact (bad H1 m1 hy1).chk
end
end U
namespace U
open PySem PySem.Spec PyProof.Rows L2

/-- neither a tuple -/
def NoTup (K : PySem.W.Frag) (H : Hp) (v : V) : Prop := v = .non ∨ ∃ p xs, v = .ref p ∧ SqL K H p xs
def RefC (K : PySem.W.Frag) (H : Hp) (y x z : V) (E : XK) (k : Prop) : Prop := YardOr K H y E fun rows => NoArr K H rows.length x E ∨ ∃ ds, Arr rows.length x ds ∧ (NoArr K H rows.length z E ∨ ∃ es, Arr rows.length z es ∧ k)
def sp_is_cost_paper (K : PySem.W.Frag) : Sp := sp4 fun y x z v H Q E => RefC K H y x z E (NoTup K H v ∧ ∀ H', Same H H' → Q (.bl false) H')
def sp_shown_cost (K : PySem.W.Frag) : Sp := sp4 fun y x z v H Q E => RefC K H y x z E (NoTup K H v ∧ Rz K "InvalidPaper" "value" v H E)
/-! never reached here -/
def sp_are_within_lines_costs (_K : PySem.W.Frag) : Sp := sp4 fun _ _ _ _ _ _ _ => False
def sp__are_within_sums (_K : PySem.W.Frag) : Sp := sp4 fun _ _ _ _ _ _ _ => False
def t_is_cost_paper (K : PySem.W.Frag) (E : XK) : TS := (tSeq (tDrop (tFn (sp_check_both K) E (tCons (tVar 0) (tCons (tVar 1) (tCons (tVar 2) tNil))))) (tRet (tAndV (tCB (uIsi K) (tCons (tVar 3) (tCons (tC (.ty "tuple")) tNil))) (tAndV (tOp (uEq K) (tCB (uLen K) (tCons (tVar 3) tNil)) (tC (.int 3))) (tAndV (tFn (sp_is_paper K) E (tCons (tVar 0) (tCons (tOp (uIx K) (tVar 3) (tC (.int 0))) tNil))) (tAndV (tFn (sp_are_levels K) E (tCons (tOp (uIx K) (tVar 3) (tC (.int 1))) (tCons (tOp uAdd (tCB (rLenO (He.ga K "Yard") (sp_Yard_len K)) (tCons (tVar 0) tNil)) (tC (.int 1))) (tCons (tC (.ref (He.ga K "PLACES"))) tNil)))) (tAndV (tFn (sp_are_levels K) E (tCons (tOp (uIx K) (tVar 3) (tC (.int 2))) (tCons (tOp uAdd (tCB (rLenO (He.ga K "Yard") (sp_Yard_len K)) (tCons (tVar 0) tNil)) (tC (.int 1))) (tCons (tC (.ref (He.ga K "PLACES"))) tNil)))) (tFn (sp_are_within_lines_costs K) E (tCons (tVar 0) (tCons (tVar 1) (tCons (tVar 2) (tCons (tVar 3) tNil))))))))))))
def t_shown_cost (K : PySem.W.Frag) (E : XK) : TS := (tSeq (tIfS (tNot (tB (tFn (sp_is_cost_paper K) E (tCons (tVar 0) (tCons (tVar 1) (tCons (tVar 2) (tCons (tVar 3) tNil))))))) (tRse K "InvalidPaper" "value" E (tCons (tVar 3) tNil)) tNext) (tSeq (tAsg (tFn (sp_first_apart K) E (tCons (tVar 1) (tCons (tVar 2) tNil))) (gName 4)) (tSeq (tIfS (tTest (tOp uIs (tVar 4) (tC .non))) (tRet (tC (.int 0))) tNext) (tSeq (tAsg (tOp uSub (tOp uSub (tCB (rLenO (He.ga K "Yard") (sp_Yard_len K)) (tCons (tVar 0) tNil)) (tC (.int 1))) (tVar 4)) (gName 5)) (tSeq (tAsg (tFn (sp_bound_beyond K) E (tCons (tVar 0) (tCons (tVar 3) tNil))) (gName 6)) (tSeq (tAsg (tOp (uIx K) (tFn (sp_bounded_prices K) E (tCons (tVar 0) (tCons (tVar 6) tNil))) (tVar 5)) (gName 7)) (tSeq (tAsg (tOp (uIx K) (tFn (sp_numbers_of K) E (tCons (tLst (tCons (tOp (uIx K) (tOp (uIx K) (tVar 3) (tC (.int 0))) (tVar 5)) tNil)) (tCons (tC (.ref (He.ga K "WAYS"))) (tCons (tVar 6) tNil)))) (tC (.int 0))) (gName 8)) (tSeq (tAsg (tOp (uIx K) (tFn (sp_numbers_of K) E (tCons (tLst (tCons (tOp (uIx K) (tOp (uIx K) (tVar 3) (tC (.int 1))) (tVar 5)) tNil)) (tCons (tC (.ref (He.ga K "PLACES"))) (tCons (tVar 6) tNil)))) (tC (.int 0))) (gName 9)) (tSeq (tAsg (tOp (uIx K) (tFn (sp_numbers_of K) E (tCons (tLst (tCons (tOp (uIx K) (tOp (uIx K) (tVar 3) (tC (.int 2))) (tVar 5)) tNil)) (tCons (tC (.ref (He.ga K "PLACES"))) (tCons (tVar 6) tNil)))) (tC (.int 0))) (gName 10)) (tSeq (tAsg (tCB (rMinT K) (tCons (tFn (sp_both_lines K) E (tCons (tOp uAdd (tOp (uIx K) (tVar 1) (tVar 4)) (tOp (uIx K) (tVar 2) (tVar 4))) (tCons (tVar 7) (tCons (tVar 8) (tCons (tVar 9) (tCons (tVar 10) tNil)))))) tNil)) (gName 11)) (tRet (tIf (tTest (tOp uLt (tVar 11) (tVar 6))) (tVar 11) (tC .non)))))))))))))
def t_are_within_lines_costs (K : PySem.W.Frag) (E : XK) : TS := (tSeq (tAsg (tFn (sp_bound_beyond K) E (tCons (tVar 0) (tCons (tVar 3) tNil))) (gName 4)) (tSeq (tAsg (tFn (sp_bounded_prices K) E (tCons (tVar 0) (tCons (tVar 4) tNil))) (gName 5)) (tSeq (tAsg (tFn (sp_numbers_of K) E (tCons (tOp (uIx K) (tVar 3) (tC (.int 0))) (tCons (tC (.ref (He.ga K "WAYS"))) (tCons (tVar 4) tNil)))) (gName 6)) (tSeq (tAsg (tLc (iSeq K (tVar 5)) (gName 9) tYes (tFn (sp_turned K) E0 (tCons (tVar 9) tNil)) [9]) (gName 7)) (tSeq (tAsg (tLc (iSeq K (tVar 6)) (gName 9) tYes (tFn (sp_turned K) E0 (tCons (tVar 9) tNil)) [9]) (gName 8)) (tRet (tAndV (tFn (sp__are_within_sums K) E (tCons (tVar 1) (tCons (tVar 5) (tCons (tVar 6) (tCons (tFn (sp_numbers_of K) E (tCons (tOp (uIx K) (tVar 3) (tC (.int 1))) (tCons (tC (.ref (He.ga K "PLACES"))) (tCons (tVar 4) tNil)))) tNil))))) (tFn (sp__are_within_sums K) E (tCons (tVar 2) (tCons (tVar 7) (tCons (tVar 8) (tCons (tFn (sp_numbers_of K) E (tCons (tOp (uIx K) (tVar 3) (tC (.int 2))) (tCons (tC (.ref (He.ga K "PLACES"))) (tCons (tVar 4) tNil)))) tNil))))))))))))
def t__are_within_sums (K : PySem.W.Frag) (E : XK) : TS := tNeverS
section
variable {K : PySem.W.Frag} (F : KF K) (R : KR K) {vs : List V} {H : Hp} {Q : VK} {E : XK}
local macro_rules | `(tactic| walk_at "w") => `(tactic| try simp only [turnE, lcT, Snoc, tRet, tRetN, tAndV, tOrV, tNotV, tCB, tCons, tVar, tNil, tC, tOp, tSeq, tAsg, gName, gSub, tIfS, tDrop, tFn, tTup, tLst, tNext, tB, tTest, tNot, tAnd, tOr, tIf, tChain, tUn, rU, tFld, tPart, tNoPart, L2.tSl, tBM, tPar, tPar3, tTruth, tDNewK,
  L2.start, List.map_cons, List.map_nil, List.length_cons, List.length_nil, List.replicate_succ, List.replicate_zero, List.append_nil, List.nil_append, List.cons_append, List.singleton_append, Nat.sub_self, Nat.zero_add, Nat.reduceAdd, Nat.reduceSub,
  List.getElem?_cons_zero, List.getElem?_cons_succ, List.set_cons_zero, List.set_cons_succ, Option.some.injEq, exists_eq_left, exists_eq_left', V.int.injEq, V.bl.injEq, V.str.injEq, V.ref.injEq,
  uAdd_int, uAdd_str, uSub_int, uMul_int, uMul_str, uDiv_int, uMod_int, uPow_int, uLt_int, uLe_int, uGt_int, uGe_int, uIs_non, uNis_non, uIs_bl, uNis_bl, sp1, sp2, sp3, sp4, uEq_int, uEq_str, uNe_int, uNe_str, uSl_str, uLen_str, decide_eq_true_eq])
local macro_rules | `(tactic| walk_at "1") => `(tactic| try simp only [turnE, lcT, Snoc, tRet, tRetN, tAndV, tOrV, tNotV, tCB, tCons, tVar, tNil, tC, tOp, tAsg, gName, gSub, tIfS, tDrop, tFn, tTup, tLst, tNext, tB, tTest, tNot, tAnd, tOr, tIf, tChain, tUn, rU, tFld, tPart, tNoPart, L2.tSl, tBM, tPar, tPar3, tTruth, tDNewK,
  L2.start, List.map_cons, List.map_nil, List.length_cons, List.length_nil, List.replicate_succ, List.replicate_zero, List.append_nil, List.nil_append, List.cons_append, List.singleton_append, Nat.sub_self, Nat.zero_add, Nat.reduceAdd, Nat.reduceSub,
  List.getElem?_cons_zero, List.getElem?_cons_succ, List.set_cons_zero, List.set_cons_succ, Option.some.injEq, exists_eq_left, exists_eq_left', V.int.injEq, V.bl.injEq, V.str.injEq, V.ref.injEq,
  uAdd_int, uAdd_str, uSub_int, uMul_int, uMul_str, uDiv_int, uMod_int, uPow_int, uLt_int, uLe_int, uGt_int, uGe_int, uIs_non, uNis_non, uIs_bl, uNis_bl, sp1, sp2, sp3, sp4, uEq_int, uEq_str, uNe_int, uNe_str, uSl_str, uLen_str, decide_eq_true_eq])
local macro_rules | `(tactic| walk_at "s") => `(tactic| ((try dsimp only [turnE]); with_reducible refine seq_ ?_))

theorem read_are_within_lines_costs (h : sp_are_within_lines_costs K vs H Q E) : t_are_within_lines_costs K E { nx := fun _ H' => Q .non H', rt := Q } (start ["yard", "start", "goal", "paper", "bound", "prices", "towers", "prices_back", "towers_back", "six"] vs) H := match vs, h with
  | [_, _, _, _], h => h.elim
theorem read__are_within_sums (h : sp__are_within_sums K vs H Q E) : t__are_within_sums K E { nx := fun _ H' => Q .non H', rt := Q } (start ["start", "prices", "towers", "levels", "place", "six", "table", "below"] vs) H := match vs, h with
  | [_, _, _, _], h => h.elim
theorem RefC.to {y x z : V} {k k' : Prop} (h : RefC K H y x z E k) (f : k → k') : RefC K H y x z E k' := YardOr.to h id fun _ _ _ _ g => g.imp id fun ⟨ds, a, b⟩ => ⟨ds, a, b.imp id fun ⟨es, c, d⟩ => ⟨es, c, f d⟩⟩
include F in
theorem read_is_cost_paper (h : sp_is_cost_paper K vs H Q E) : t_is_cost_paper K E { nx := fun _ H' => Q .non H', rt := Q } (start ["yard", "start", "goal", "value"] vs) H := by
  match vs, h with
  | [y, x, z, v], h =>
    unfold t_is_cost_paper
    walk_at "s"
    walk_at "1"
    refine RefC.to h fun ⟨nt, q⟩ H1 s1 => ?_
    walk_at "1"
    rcases nt with rfl | ⟨p, xs, rfl, hs⟩
    · exact isi_ty F (b := .tup) rfl is_non ⟨false, rfl, q H1 s1⟩
    · exact isi_ty F (b := .tup) rfl (is_sqL (Same.seq s1 hs)) ⟨false, rfl, q H1 s1⟩
theorem read_shown_cost (h : sp_shown_cost K vs H Q E) : t_shown_cost K E { nx := fun _ H' => Q .non H', rt := Q } (start ["yard", "start", "goal", "paper", "crate", "rest", "bound", "prices", "towers", "from_start", "to_goal", "cost"] vs) H := by
  match vs, h with
  | [y, x, z, v], h =>
    unfold t_shown_cost
    walk_at "s"
    walk_at "1"
    refine RefC.to h fun ⟨nt, rz⟩ => ⟨nt, fun H1 s1 => ⟨_, rfl, ?_⟩⟩
    rw [if_pos (by decide)]
    exact rse_var rfl (Rz.same s1 rz)
end
end U
namespace U
open PySem PySem.Spec PyProof.Rows L2

abbrev LL := List (List (Option Int))
/-! ### moves and walks -/
/-- one move with its price: the largest crate, or one of the rest -/
inductive Stp : LL → List Nat → List Nat → Int → Prop
  | big {r rs d p es c} (hd : d < 3) (hp : p < 3) (ne : p ≠ d) (h1 : d ∉ es) (h2 : p ∉ es) (hc : prF r d p = some c) : Stp (r :: rs) (d :: es) (p :: es) c
  | small {r rs d es fs c} (h : Stp rs es fs c) : Stp (r :: rs) (d :: es) (d :: fs) c
inductive Wlk (rows : LL) : List Nat → List Nat → Int → Prop
  | nil {s} : Wlk rows s s 0
  | cons {s t u a b} (h : Stp rows s t a) (w : Wlk rows t u b) : Wlk rows s u (a + b)
theorem Wlk.trans {rows : LL} {s t u : List Nat} {a b : Int} (h : Wlk rows s t a) (g : Wlk rows t u b) : Wlk rows s u (a + b) := by
  induction h with
  | nil => rw [Int.zero_add]; exact g
  | cons h w ih => rw [Int.add_assoc]; exact .cons h (ih g)
theorem Wlk.one {rows : LL} {s t : List Nat} {a : Int} (h : Stp rows s t a) : Wlk rows s t a := by
  have := Wlk.cons h (.nil (s := t))
  rwa [Int.add_zero] at this
theorem Stp.d3 {rows : LL} {s t : List Nat} {c : Int} (h : Stp rows s t c) (g : D3 s) : D3 t := by
  induction h with
  | big hd hp ne h1 h2 hc =>
    intro x m
    rcases List.mem_cons.mp m with rfl | m
    · exact hp
    · exact g x (List.mem_cons_of_mem _ m)
  | small h ih =>
    intro x m
    rcases List.mem_cons.mp m with rfl | m
    · exact g _ List.mem_cons_self
    · exact ih (fun y my => g y (List.mem_cons_of_mem _ my)) x m
theorem Stp.len {rows : LL} {s t : List Nat} {c : Int} (h : Stp rows s t c) : t.length = s.length := by
  induction h with
  | big => rfl
  | small h ih => simp [ih]
theorem Wlk.len {rows : LL} {s t : List Nat} {c : Int} (h : Wlk rows s t c) : t.length = s.length := by
  induction h with
  | nil => rfl
  | cons h w ih => rw [ih, h.len]
theorem Wlk.d3 {rows : LL} {s t : List Nat} {c : Int} (h : Wlk rows s t c) (g : D3 s) : D3 t := by
  induction h with
  | nil => exact g
  | cons h w ih => exact ih (h.d3 g)
/-- prices are not negative -/
def PosR (rows : LL) : Prop := ∀ r ∈ rows, ∀ v, some v ∈ r → 0 < v
theorem PosR.tail {r : List (Option Int)} {rs : LL} (h : PosR (r :: rs)) : PosR rs := fun x m => h x (List.mem_cons_of_mem _ m)
theorem prF_mem {r : List (Option Int)} {i j : Nat} {v : Int} (h : prF r i j = some v) : some v ∈ r := by
  unfold prF at h
  cases e : r[colN i j]? with
  | none => (rw [e] at h; cases h)
  | some o =>
    rw [e] at h
    have : o = some v := h
    exact this ▸ List.mem_of_getElem? e
theorem Stp.pos {rows : LL} {s t : List Nat} {c : Int} (h : Stp rows s t c) (g : PosR rows) : 0 < c := by
  induction h with
  | big hd hp ne h1 h2 hc => exact g _ List.mem_cons_self _ (prF_mem hc)
  | small h ih => exact ih g.tail
theorem Wlk.nonneg {rows : LL} {s t : List Nat} {c : Int} (h : Wlk rows s t c) (g : PosR rows) : 0 ≤ c := by
  induction h with
  | nil => exact Int.le_refl _
  | cons h w ih => have := h.pos g; omega
/-! ### the least cost -/
def Least (rows : LL) (s t : List Nat) : Option Int → Prop
  | none => ∀ C, ¬ Wlk rows s t C
  | some v => Wlk rows s t v ∧ ∀ C, Wlk rows s t C → v ≤ C
theorem Least.uniq {rows : LL} {s t : List Nat} {o p : Option Int} (h : Least rows s t o) (g : Least rows s t p) : o = p := by
  cases o with
  | none =>
    cases p with
    | none => rfl
    | some v => exact absurd g.1 (h v)
  | some u =>
    cases p with
    | none => exact absurd h.1 (g u)
    | some v => exact congrArg some (Int.le_antisymm (h.2 _ g.1) (g.2 _ h.1))
theorem Least.some_of {rows : LL} {s t : List Nat} {o : Option Int} {a : Int} (h : Least rows s t o) (w : Wlk rows s t a) : ∃ v, o = some v ∧ Wlk rows s t v ∧ v ≤ a := by
  cases o with
  | none => exact absurd w (h a)
  | some v => exact ⟨v, rfl, h.1, h.2 a w⟩
end U
namespace U
open PySem PySem.Spec PyProof.Rows L2

/-! ### tables of costs by arrangements -/
abbrev Cst := List (List Nat × Int)
def getC (cs : Cst) (w : List Nat) : Option Int := (cs.find? fun p => decide (p.1 = w)).map (·.2)
theorem getC_pos {p : List Nat × Int} {r : Cst} {w : List Nat} (e : p.1 = w) : getC (p :: r) w = some p.2 := by simp [getC, List.find?_cons, e]
theorem getC_neg {p : List Nat × Int} {r : Cst} {w : List Nat} (e : ¬ p.1 = w) : getC (p :: r) w = getC r w := by simp [getC, List.find?_cons, e]
theorem getC_any (w : List Nat) : ∀ cs : Cst, (cs.any fun p => decide (p.1 = w)) = (getC cs w).isSome
  | [] => rfl
  | p :: r => by
    rw [List.any_cons]
    by_cases e : p.1 = w
    · simp only [getC_pos e, decide_eq_true e, Bool.true_or, Option.isSome_some]
    · rw [getC_neg e, decide_eq_false e, Bool.false_or]; exact getC_any w r
theorem getC_key {cs : Cst} {w : List Nat} : (getC cs w).isSome = true ↔ w ∈ cs.map (·.1) := by
  rw [← getC_any, List.any_eq_true]
  constructor
  · rintro ⟨p, m, e⟩
    exact List.mem_map.mpr ⟨p, m, of_decide_eq_true e⟩
  · intro m
    obtain ⟨p, mp, e⟩ := List.mem_map.mp m
    exact ⟨p, mp, decide_eq_true e⟩
/-! ### lists without doubles -/
theorem nodup_le {α : Type} [DecidableEq α] : ∀ {l m : List α}, l.Nodup → (∀ x ∈ l, x ∈ m) → l.length ≤ m.length
  | [], _, _, _ => (Nat.zero_le _)
  | x :: l, m, h, s => by
    rw [List.nodup_cons] at h
    have hx := s x List.mem_cons_self
    have i := nodup_le (l := l) (m := m.erase x) h.2 fun y my => (List.mem_erase_of_ne (by rintro rfl; exact h.1 my)).mpr (s y (List.mem_cons_of_mem _ my))
    rw [List.length_erase_of_mem hx] at i
    have := List.length_pos_of_mem hx
    rw [List.length_cons]
    omega
theorem nodup_eq {α : Type} [DecidableEq α] {l m : List α} (h : l.Nodup) (s : ∀ x ∈ l, x ∈ m) (le : m.length ≤ l.length) {x : α} (hx : x ∈ m) : x ∈ l := by
  by_cases e : x ∈ l
  · exact e
  · have := nodup_le (l := x :: l) (m := m) (List.nodup_cons.mpr ⟨e, h⟩) fun y my => by
      rcases List.mem_cons.mp my with rfl | my
      · exact hx
      · exact s y my
    rw [List.length_cons] at this
    omega
/-- all arrangements of n crates, in order -/
def allW : Nat → List (List Nat)
  | 0 => [[]]
  | n + 1 => [0, 1, 2].flatMap fun d => (allW n).map (d :: ·)
theorem allW_len : ∀ n, (allW n).length = 3 ^ n
  | 0 => rfl
  | n + 1 => by
    have := allW_len n
    simp [allW, this, Nat.pow_succ]
    omega
theorem mem_allW : ∀ {n : Nat} {w : List Nat}, w.length = n → D3 w → w ∈ allW n
  | 0, w, h, _ => by
    rw [List.eq_nil_of_length_eq_zero h]
    exact List.mem_singleton.mpr rfl
  | n + 1, [], h, _ => by cases h
  | n + 1, d :: w, h, g => by
    have hd := g d List.mem_cons_self
    have hw := mem_allW (n := n) (w := w) (Nat.succ.inj h) fun x m => g x (List.mem_cons_of_mem _ m)
    refine List.mem_flatMap.mpr ⟨d, ?_, List.mem_map.mpr ⟨w, hw, rfl⟩⟩
    have : d = 0 ∨ d = 1 ∨ d = 2 := by omega
    rcases this with rfl | rfl | rfl <;> simp
/-! ### going through all arrangements, the nearest first -/
structure Dij (rows : LL) (s : List Nat) (cs ds : Cst) : Prop where
  kn : (cs.map (·.1)).Nodup
  dn : (ds.map (·.1)).Nodup
  wl : ∀ w c, getC cs w = some c → Wlk rows s w c
  st : getC cs s = some 0
  sub : ∀ w c, getC ds w = some c → getC cs w = some c
  ord : ∀ w c x e, getC ds w = some c → getC cs x = some e → getC ds x = none → c ≤ e
  out : ∀ w c, getC ds w = some c → ∀ x p, Stp rows w x p → ∃ e, getC cs x = some e ∧ e ≤ c + p
theorem Dij.start {rows : LL} {s : List Nat} : Dij rows s [(s, 0)] [] where
  kn := by simp
  dn := by simp
  wl := fun w c h => by
    by_cases e : s = w
    · subst e
      rw [getC_pos rfl] at h
      injection h with h
      rw [← h]
      exact .nil
    · rw [getC_neg e] at h
      cases h
  st := getC_pos rfl
  sub := fun w c h => by cases h
  ord := fun w c x e h => by cases h
  out := fun w c h => by cases h
/-- within: the moves behind u, seen so far -/
structure DijI (rows : LL) (s : List Nat) (u : List Nat) (k : Int) (seen : List (List Nat × Int)) (cs ds : Cst) : Prop where
  kn : (cs.map (·.1)).Nodup
  dn : (ds.map (·.1)).Nodup
  wl : ∀ w c, getC cs w = some c → Wlk rows s w c
  st : getC cs s = some 0
  sub : ∀ w c, getC ds w = some c → getC cs w = some c
  ord : ∀ x e, getC cs x = some e → getC ds x = none → k ≤ e
  top : ∀ w c, getC ds w = some c → c ≤ k
  at_ : getC ds u = some k
  out : ∀ w c, getC ds w = some c → ∀ x p, Stp rows w x p → (w = u → (x, p) ∈ seen) → ∃ e, getC cs x = some e ∧ e ≤ c + p
theorem Dij.few {rows : LL} {s : List Nat} {cs ds : Cst} (h : Dij rows s cs ds) (h3 : D3 s) : cs.length ≤ 3 ^ s.length := by
  rw [← allW_len, ← List.length_map (f := fun p : List Nat × Int => p.1) (as := cs)]
  refine nodup_le h.kn fun w m => ?_
  obtain ⟨c, hc⟩ := Option.isSome_iff_exists.mp (getC_key.mpr m)
  have := h.wl w c hc
  exact mem_allW this.len (this.d3 h3)
theorem DijI.few {rows : LL} {s u : List Nat} {k : Int} {ms : List (List Nat × Int)} {cs ds : Cst} (h : DijI rows s u k ms cs ds) (h3 : D3 s) : cs.length ≤ 3 ^ s.length := by
  rw [← allW_len, ← List.length_map (f := fun p : List Nat × Int => p.1) (as := cs)]
  refine nodup_le h.kn fun w m => ?_
  obtain ⟨c, hc⟩ := Option.isSome_iff_exists.mp (getC_key.mpr m)
  have := h.wl w c hc
  exact mem_allW this.len (this.d3 h3)
theorem sub_keys {cs ds : Cst} (sub : ∀ w c, getC ds w = some c → getC cs w = some c) : ∀ w ∈ ds.map (·.1), w ∈ cs.map (·.1) := fun w m => by
  obtain ⟨c, hc⟩ := Option.isSome_iff_exists.mp (getC_key.mpr m)
  exact getC_key.mp (by rw [sub w c hc]; rfl)
theorem Dij.le {rows : LL} {s : List Nat} {cs ds : Cst} (h : Dij rows s cs ds) : ds.length ≤ cs.length := by
  have := nodup_le h.dn (sub_keys h.sub)
  simpa using this
/-- some is left -/
theorem Dij.left {rows : LL} {s : List Nat} {cs ds : Cst} (h : Dij rows s cs ds) (lt : ds.length < cs.length) : ∃ w c, (w, c) ∈ cs ∧ getC ds w = none := by
  refine Classical.byContradiction fun no => ?_
  have := nodup_le h.kn (m := ds.map (·.1)) fun w m => by
    obtain ⟨p, mp, e⟩ := List.mem_map.mp m
    cases q : getC ds w with
    | none => exact absurd ⟨w, p.2, by rw [← e]; exact mp, q⟩ no
    | some c => exact getC_key.mp (by rw [q]; rfl)
  simp at this
  omega
theorem Dij.done {rows : LL} {s : List Nat} {cs ds : Cst} (h : Dij rows s cs ds) (ge : cs.length ≤ ds.length) (hP : PosR rows) : ∀ x, Least rows s x (getC ds x) := by
  have same : ∀ w c, getC cs w = some c → getC ds w = some c := fun w c hc => by
    have m := nodup_eq h.dn (sub_keys h.sub) (by simpa using ge) (x := w) (getC_key.mp (by rw [hc]; rfl))
    obtain ⟨d, hd⟩ := Option.isSome_iff_exists.mp (getC_key.mpr m)
    have := h.sub w d hd
    rw [hc] at this
    rw [hd, ← this]
  have key : ∀ {w x : List Nat} {C : Int}, Wlk rows w x C → ∀ c, getC ds w = some c → ∃ e, getC ds x = some e ∧ e ≤ c + C := by
    intro w x C k
    induction k with
    | nil => exact fun c hc => ⟨c, hc, by omega⟩
    | cons g _ ih =>
      intro c hc
      obtain ⟨e, he, le⟩ := h.out _ c hc _ _ g
      obtain ⟨f, hf, le2⟩ := ih e (same _ _ he)
      exact ⟨f, hf, by omega⟩
  have s0 := same s 0 h.st
  intro x
  cases q : getC ds x with
  | none =>
    intro C w
    obtain ⟨e, he, _⟩ := key w 0 s0
    rw [q] at he
    cases he
  | some v =>
    refine ⟨h.wl x v (h.sub x v q), fun C w => ?_⟩
    obtain ⟨e, he, le⟩ := key w 0 s0
    rw [q] at he
    injection he with he
    omega
/-! ### the list of the moves -/
end U
namespace U
open PySem PySem.Spec PyProof.Rows L2

/-! ### the boxes of numbers that the laws draw from -/
def Bx (H : Hp) (b : Addr) (m : Int) : Prop := ∃ g s k : Int, H b = some (.lst [.int g, .int s, .int k]) ∧ 0 ≤ g ∧ 0 ≤ s ∧ s < 2147483648 ∧ 0 ≤ k ∧ k ≤ m
theorem Bx.mono {H : Hp} {b : Addr} {m n : Int} (h : Bx H b m) (e : m ≤ n) : Bx H b n := by
  obtain ⟨g, s, k, h1, h2, h3, h4, h5, h6⟩ := h
  exact ⟨g, s, k, h1, h2, h3, h4, h5, by omega⟩
theorem Bx.same {H H' : Hp} {b : Addr} {m : Int} (h : Bx H b m) (e : Same H H') : Bx H' b m := by
  obtain ⟨g, s, k, h1, h2⟩ := h
  exact ⟨g, s, k, e _ _ h1, h2⟩
theorem Bx.at_ {H : Hp} {b : Addr} {m : Int} (h : Bx H b m) : ∃ l, H b = some (.lst l) := by
  obtain ⟨g, s, k, h1, _⟩ := h
  exact ⟨_, h1⟩
theorem Off.lst {H H' : Hp} {b c : Addr} {o : HO} (h : Off b H H') (hc : H c = some o) (n : c ≠ b) : H' c = some o := h _ _ n hc
theorem Off.new {H H2 : Hp} {b D : Addr} {o : HO} (h : Off b H H2) (hD : H D = none) : Off b H (upd H2 D o) := fun c u n e => by rw [upd_ne (ne_of_none e hD)]; exact h c u n e
theorem Bx.upd {H : Hp} {b D : Addr} {m : Int} {o : HO} (h : Bx H b m) (n : D ≠ b) : Bx (upd H D o) b m := by
  obtain ⟨g, s, k, h1, h2⟩ := h
  exact ⟨g, s, k, by rw [upd_ne n.symm]; exact h1, h2⟩
def sp__law_take (_K : PySem.W.Frag) : Sp := sp2 fun x am H Q _ => ∃ b m k, x = .ref b ∧ am = .int k ∧ 0 < k ∧ k ≤ 1000000000 ∧ Bx H b m ∧ m ≤ 1000000000 ∧ ∀ d H', 0 ≤ d → d < k → Off b H H' → Bx H' b (m + 1) → Q (.int d) H'
def sp__law_cell (K : PySem.W.Frag) : Sp := sp2 fun x y H Q _ => ∃ (a : Addr) (ns : List Int) (i : Int), x = .ref a ∧ y = .int i ∧ SqL K H a (ns.map V.int) ∧ 0 ≤ i ∧ i < 1000000 ∧ ∀ c H', Same H H' → Q (.int c) H'
def sp__law_bag (_K : PySem.W.Frag) : Sp := sp1 fun x H Q _ => ∃ c, x = .int c ∧ ∀ b H', H b = none → Same H H' → Bx H' b 0 → Q (.ref b) H'
def t__law_take (K : PySem.W.Frag) (E : XK) : TS := (tSeq (tIfS (tTest (tOp uGt (tOp (uIx K) (tVar 0) (tC (.int 0))) (tC (.int 0)))) (tSeq (tAsg (tOp uMod (tCB rInt (tCons (tOp (uIx K) (tVar 0) (tC (.int 0))) tNil)) (tVar 1)) (gName 2)) (tSeq (tAsg (tOp uDiv (tOp (uIx K) (tVar 0) (tC (.int 0))) (tVar 1)) (gSub (tVar 0) (tC (.int 0)) rSetL)) (tRet (tVar 2)))) tNext) (tSeq (tAsg (tOp uAdd (tOp (uIx K) (tVar 0) (tC (.int 2))) (tC (.int 1))) (gSub (tVar 0) (tC (.int 2)) rSetL)) (tSeq (tAsg (tOp uMod (tOp uPow (tCB rInt (tCons (tOp uAdd (tOp uAdd (tOp (uIx K) (tVar 0) (tC (.int 1))) (tOp uMul (tC (.int 32453277)) (tOp (uIx K) (tVar 0) (tC (.int 2))))) (tC (.int 1597))) tNil)) (tC (.int 5))) (tC (.int 2147483647))) (gName 3)) (tSeq (tAsg (tOp uMod (tOp uPow (tCB rInt (tCons (tOp uAdd (tVar 3) (tOp uMul (tC (.int 104729)) (tOp (uIx K) (tVar 0) (tC (.int 2))))) tNil)) (tC (.int 3))) (tC (.int 2147483587))) (gName 3)) (tRet (tOp uMod (tCB rInt (tCons (tOp uDiv (tVar 3) (tC (.int 16))) tNil)) (tVar 1)))))))
def t__law_cell (K : PySem.W.Frag) (E : XK) : TS := (tSeq (tAsg (tOp uAdd (tOp uMul (tC (.int 32453277)) (tVar 1)) (tC (.int 1597))) (gName 2)) (tRet (tIf (tTest (tOp uLt (tVar 1) (tCB (uLen K) (tCons (tVar 0) tNil)))) (tOp (uIx K) (tVar 0) (tVar 1)) (tOp uAdd (tVar 2) (tIf (tTest (tOp uGt (tCB (uLen K) (tCons (tVar 0) tNil)) (tC (.int 0)))) (tOp uMod (tCB rInt (tCons (tOp (uIx K) (tVar 0) (tC (.int 0))) tNil)) (tC (.int 1000003))) (tC (.int 0)))))))
def t__law_bag (K : PySem.W.Frag) (E : XK) : TS := (tRet (tLst (tCons (tCB uMax2 (tCons (tC (.int 0)) (tCons (tOp uSub (tVar 0) (tOp uPow (tC (.int 10)) (tC (.int 18)))) tNil))) (tCons (tOp uMod (tCB rInt (tCons (tVar 0) tNil)) (tC (.int 2147483629))) (tCons (tC (.int 0)) tNil)))))
theorem Off.free {H H' : Hp} {b l : Addr} (h : Off b H H') (n : l ≠ b) (e : H' l = none) : H l = none := by
  cases q : H l with
  | none => rfl
  | some o =>
    rw [h l o n q] at e
    cases e
theorem abc_at {K : PySem.W.Frag} {d : Int} {H : Hp} {Q : VK} (h0 : 0 ≤ d) (h1 : d < 3) (q : Q (.str (pl d.toNat)) H) : uIx K (.str "abc") (.int d) H Q := by
  refine uIx_str (c := 97 + d.toNat) (by decide) ?_ q
  obtain rfl | rfl | rfl : d = 0 ∨ d = 1 ∨ d = 2 := by omega
  · decide
  · decide
  · decide
theorem tLc_rng1 {t : TA} {σ : L2.St} {g : TG} {tt : TT} {te : TE} {vs : List Nat} {Q : VK} {H : Hp} {n : Nat} (h : ∀ R : List V → Hp → Prop, R [.int n] H → t σ H R) (hn : n ≤ 1000000000) (hc : ∀ D, H D = none → LcB (Itr 0 n) g tt te vs σ H D (Q (.ref D))) : tLc (iRng1 t) g tt te vs σ H Q := by
  refine h _ ⟨_, rfl, by omega, by omega, ?_⟩
  rw [Int.toNat_natCast]
  exact hc
/-- prices as the laws draw them: none above a hundred and some, with 27 more figures -/
def lowP : Option Int → Bool
  | none => true
  | some i => decide (0 < i ∧ i < 10 ^ 32)
def RowsLo (rows : List (List (Option Int))) : Prop := ∀ r ∈ rows, r.all lowP = true
theorem low_ok {p : Option Int} (h : lowP p = true) : okP p = true := by
  cases p with
  | none => rfl
  | some i => exact decide_eq_true (of_decide_eq_true h).1
theorem lowL_ok {r : List (Option Int)} (h : r.all lowP = true) : r.all okP = true := List.all_eq_true.mpr fun p m => low_ok (List.all_eq_true.mp h p m)
/-- a list under way, L, of lists of prices -/
def PI (H : Hp) (L b : Addr) (as : List Addr) (rows : List (List (Option Int))) : Prop := H L = some (.lst (as.map V.ref)) ∧ L ≠ b ∧ as.length = rows.length ∧ (∀ r ∈ rows, r.length = 6 ∧ r.all lowP = true) ∧
  ∀ (j : Nat) (a : Addr) (r : List (Option Int)), as[j]? = some a → rows[j]? = some r → H a = some (.lst (r.map pV)) ∧ a ≠ L ∧ a ≠ b
theorem PI.off {H H' : Hp} {L b : Addr} {as : List Addr} {rows : List (List (Option Int))} (h : PI H L b as rows) (o : Off b H H') : PI H' L b as rows := by
  obtain ⟨h1, h2, h3, h4, h5⟩ := h
  refine ⟨o _ _ h2 h1, h2, h3, h4, fun j a r z1 z2 => ?_⟩
  obtain ⟨k1, k2, k3⟩ := h5 j a r z1 z2
  exact ⟨o _ _ k3 k1, k2, k3⟩
theorem PI.put {H : Hp} {L b l : Addr} {as : List Addr} {rows : List (List (Option Int))} {o : HO} (h : PI H L b as rows) (n1 : l ≠ L) (n2 : l ∉ as) : PI (upd H l o) L b as rows := by
  obtain ⟨h1, h2, h3, h4, h5⟩ := h
  refine ⟨by rw [upd_ne n1.symm]; exact h1, h2, h3, h4, fun j a r z1 z2 => ?_⟩
  obtain ⟨k1, k2, k3⟩ := h5 j a r z1 z2
  exact ⟨by rw [upd_ne (by rintro rfl; exact n2 (List.mem_of_getElem? z1))]; exact k1, k2, k3⟩
theorem PI.fresh {H : Hp} {L b l : Addr} {as : List Addr} {rows : List (List (Option Int))} (h : PI H L b as rows) (hl : H l = none) : l ≠ L ∧ l ∉ as := by
  obtain ⟨h1, h2, h3, h4, h5⟩ := h
  refine ⟨(by rintro rfl; rw [h1] at hl; cases hl), fun m => ?_⟩
  obtain ⟨j, lt, e⟩ := List.mem_iff_getElem.mp m
  obtain ⟨k1, _⟩ := h5 j l rows[j] (by rw [← e]; exact List.getElem?_eq_getElem lt) (List.getElem?_eq_getElem (by omega))
  rw [k1] at hl
  cases hl
theorem PI.push {H : Hp} {L b l : Addr} {as : List Addr} {rows : List (List (Option Int))} {r : List (Option Int)} (h : PI H L b as rows) (hl : H l = some (.lst (r.map pV))) (n1 : l ≠ L) (n2 : l ≠ b) (h6 : r.length = 6) (ho : r.all lowP = true) :
    PI (upd H L (.lst ((as.map V.ref) ++ [.ref l]))) L b (as ++ [l]) (rows ++ [r]) := by
  obtain ⟨h1, h2, h3, h4, h5⟩ := h
  refine ⟨by rw [upd_same]; simp, h2, by simp [h3], fun x m => ?_, fun j a x z1 z2 => ?_⟩
  · rcases List.mem_append.mp m with m | m
    · exact h4 x m
    · rw [List.mem_singleton.mp m]
      exact ⟨h6, ho⟩
  · by_cases e : j < as.length
    · rw [List.getElem?_append_left e] at z1
      rw [List.getElem?_append_left (by omega)] at z2
      obtain ⟨k1, k2, k3⟩ := h5 j a x z1 z2
      exact ⟨by rw [upd_ne k2]; exact k1, k2, k3⟩
    · have e2 : j = as.length := by
        have := (List.getElem?_eq_some_iff.mp z1).1
        simp at this
        omega
      subst e2
      rw [List.getElem?_append_right (Nat.le_refl _), Nat.sub_self] at z1
      rw [List.getElem?_append_right (by omega), h3, Nat.sub_self] at z2
      cases z1
      cases z2
      exact ⟨by rw [upd_ne n1]; exact hl, n1, n2⟩
theorem PI.rowV {K : PySem.W.Frag} {H : Hp} {L b : Addr} {as : List Addr} {rows : List (List (Option Int))} (h : PI H L b as rows) : RowV K H (.ref L) rows := by
  obtain ⟨h1, h2, h3, h4, h5⟩ := h
  refine ⟨L, _, rfl, .inl (.inl (.inl h1)), by simp [h3], fun i v r z1 z2 => ?_⟩
  rw [List.getElem?_map] at z1
  obtain ⟨a, z3, rfl⟩ := Option.map_eq_some_iff.mp z1
  exact ⟨a, rfl, .inl (.inl (.inl (h5 i a r z3 z2).1))⟩
theorem Bx.ne {H : Hp} {b : Addr} {m : Int} {l : Addr} (h : Bx H b m) (hl : H l = none) : l ≠ b := by
  obtain ⟨l0, hb0⟩ := h.at_
  rintro rfl
  rw [hl] at hb0
  cases hb0
/-- how many cells a law looks at -/
theorem most_of (n : Nat) (lim : Int) (hl : lim ≤ 100) : ∃ N : Nat, N ≤ 100 ∧ (if (if (n : Int) < lim then (n : Int) else lim) > 2 then (if (n : Int) < lim then (n : Int) else lim) else 2) = (N : Int) := by
  refine ⟨(if (if (n : Int) < lim then (n : Int) else lim) > 2 then (if (n : Int) < lim then (n : Int) else lim) else 2).toNat, ?_, ?_⟩
  · split <;> split <;> omega
  · split <;> split <;> omega
def sp_law0 (K : PySem.W.Frag) : Sp := sp1 fun x H Q _ => ∃ (a : Addr) (ns : List Int), x = .ref a ∧ SqL K H a (ns.map V.int) ∧ ∀ H', Q (.bl true) H'
section
variable {K : PySem.W.Frag} (F : KF K) {vs : List V} {H : Hp} {Q : VK} {E : XK}
local macro_rules | `(tactic| walk_at "w") => `(tactic| try simp only [turnE, lcT, Snoc, tRet, tRetN, tAndV, tOrV, tNotV, tCB, tCons, tVar, tNil, tC, tOp, tSeq, tAsg, gName, gSub, tIfS, tDrop, tFn, tTup, tLst, tNext, tB, tTest, tNot, tAnd, tOr, tIf, tChain, tUn, rU, tFld, tPart, tNoPart, L2.tSl, tBM, tPar, tPar3, tTruth, tDNewK,
  L2.start, List.map_cons, List.map_nil, List.length_cons, List.length_nil, List.replicate_succ, List.replicate_zero, List.append_nil, List.nil_append, List.cons_append, List.singleton_append, Nat.sub_self, Nat.zero_add, Nat.reduceAdd, Nat.reduceSub,
  List.getElem?_cons_zero, List.getElem?_cons_succ, List.set_cons_zero, List.set_cons_succ, Option.some.injEq, exists_eq_left, exists_eq_left', V.int.injEq, V.bl.injEq, V.str.injEq, V.ref.injEq,
  uAdd_int, uAdd_str, uSub_int, uMul_int, uMul_str, uDiv_int, uMod_int, uPow_int, uLt_int, uLe_int, uGt_int, uGe_int, uIs_non, uNis_non, uIs_bl, uNis_bl, sp1, sp2, sp3, sp4, uEq_int, uEq_str, uNe_int, uNe_str, uSl_str, uLen_str, decide_eq_true_eq])
local macro_rules | `(tactic| walk_at "1") => `(tactic| try simp only [turnE, lcT, Snoc, tRet, tRetN, tAndV, tOrV, tNotV, tCB, tCons, tVar, tNil, tC, tOp, tAsg, gName, gSub, tIfS, tDrop, tFn, tTup, tLst, tNext, tB, tTest, tNot, tAnd, tOr, tIf, tChain, tUn, rU, tFld, tPart, tNoPart, L2.tSl, tBM, tPar, tPar3, tTruth, tDNewK,
  L2.start, List.map_cons, List.map_nil, List.length_cons, List.length_nil, List.replicate_succ, List.replicate_zero, List.append_nil, List.nil_append, List.cons_append, List.singleton_append, Nat.sub_self, Nat.zero_add, Nat.reduceAdd, Nat.reduceSub,
  List.getElem?_cons_zero, List.getElem?_cons_succ, List.set_cons_zero, List.set_cons_succ, Option.some.injEq, exists_eq_left, exists_eq_left', V.int.injEq, V.bl.injEq, V.str.injEq, V.ref.injEq,
  uAdd_int, uAdd_str, uSub_int, uMul_int, uMul_str, uDiv_int, uMod_int, uPow_int, uLt_int, uLe_int, uGt_int, uGe_int, uIs_non, uNis_non, uIs_bl, uNis_bl, sp1, sp2, sp3, sp4, uEq_int, uEq_str, uNe_int, uNe_str, uSl_str, uLen_str, decide_eq_true_eq])
local macro_rules | `(tactic| walk_at "s") => `(tactic| ((try dsimp only [turnE]); with_reducible refine seq_ ?_))

theorem uIx_lst {p : Addr} {xs : List V} {i : Int} {v : V} (h : H p = some (.lst xs)) (hi : atI xs i = some v) (q : Q v H) : uIx K (.ref p) (.int i) H Q := ⟨xs, v, .inl (.inl (.inl h)), hi, q⟩
theorem rInt_int {i : Int} (q : Q (.int i) H) : rInt [.int i] H Q := .inl ⟨i, rfl, q⟩
theorem rSetL_of {p : Addr} {xs : List V} {k : Int} {j : Nat} {v : V} {Q : Hp → Prop} (h : H p = some (.lst xs)) (hj : ixN xs.length k = some j) (q : Q (upd H p (.lst (xs.set j v)))) : rSetL (.ref p) (.int k) v H Q := ⟨p, xs, k, j, rfl, rfl, h, hj, q⟩
theorem cdivw_of {i j : Int} (h : 0 < j) (h2 : j ≤ 1000000000) : CDivW i j := by
  refine ⟨h, ?_⟩
  have : j.natAbs ≠ 0 := by omega
  have h3 : j.natAbs.log2 < 30 := (Nat.log2_lt this).mpr (by omega)
  omega
theorem tyL {l : Addr} {xs : List V} (h : H l = some (.lst xs)) : tyV K "list" (.ref l) H := Or.inl ⟨rfl, xs, .inl (.inl h)⟩
theorem app_of {l : Addr} {xs : List V} {y : V} (h : H l = some (.lst xs)) (hx : xs.length ≤ 100000) (q : Q .non (upd H l (.lst (xs ++ [y])))) : rAppend (.ref l) [y] H Q := ⟨l, xs, y, rfl, rfl, h, Nat.lt_of_lt_of_le (show xs.length < 100001 by omega) (by decide), q⟩
theorem take_of {b : Addr} {m k : Int} (hb : Bx H b m) (hm : m ≤ 1000000000) (h0 : 0 < k) (h1 : k ≤ 1000000000) (q : ∀ d H', 0 ≤ d → d < k → Off b H H' → Bx H' b (m + 1) → Q (.int d) H') : sp__law_take K [.ref b, .int k] H Q E :=
  ⟨b, m, k, rfl, rfl, h0, h1, hb, hm, q⟩
include F in
theorem read__law_cell (h : sp__law_cell K vs H Q E) : t__law_cell K E { nx := fun _ H' => Q .non H', rt := Q } (start ["_law_script", "_law_k", "_law_spare"] vs) H := by
  match vs, h with
  | [_, _], ⟨a, ns, i, rfl, rfl, ha, h0, h1, q⟩ =>
    unfold t__law_cell
    walk_at "s"
    walk_at "1"
    refine ⟨.inl (by omega), ?_⟩
    refine uLen_seq (.inl ha) ?_
    refine ⟨_, rfl, ?_⟩
    by_cases hi : i < ((ns.map V.int).length : Int)
    · rw [if_pos (decide_eq_true hi)]
      have hl : i.toNat < ns.length := by simp at hi; omega
      refine ⟨_, .int ns[i.toNat], .inl ha, ?_, q _ _ (Same.refl H)⟩
      unfold atI ixN
      rw [if_pos h0, if_pos hi]
      show (ns.map V.int)[i.toNat]? = _
      rw [List.getElem?_map, List.getElem?_eq_getElem hl]
      rfl
    · rw [if_neg (by simpa using hi)]
      walk_at "1"
      refine uLen_seq (.inl ha) ?_
      refine ⟨_, rfl, ?_⟩
      by_cases hz : (0 : Int) < ((ns.map V.int).length : Int)
      · rw [if_pos (decide_eq_true hz)]
        have hl : 0 < ns.length := by simp at hz; omega
        refine ⟨_, .int ns[0], .inl ha, ?_, ?_⟩
        · unfold atI ixN
          rw [if_pos (by decide), if_pos hz]
          show (ns.map V.int)[0]? = _
          rw [List.getElem?_map, List.getElem?_eq_getElem hl]
          rfl
        · refine rInt_int ?_
          walk_at "1"
          exact ⟨by omega, q _ _ (Same.refl H)⟩
      · rw [if_neg (by simpa using hz)]
        walk_at "1"
        exact q _ _ (Same.refl H)
include F in
theorem read__law_bag (h : sp__law_bag K vs H Q E) : t__law_bag K E { nx := fun _ H' => Q .non H', rt := Q } (start ["_law_cell_here"] vs) H := by
  match vs, h with
  | [_], ⟨c, rfl, q⟩ =>
    unfold t__law_bag
    walk_at "1"
    refine ⟨⟨by omega, by omega, by omega⟩, 0, c - 10 ^ Int.toNat 18, rfl, rInt_int ?_⟩
    walk_at "1"
    refine ⟨by omega, by decide, fun b hb => q b _ hb (same_new hb) ⟨_, _, 0, upd_same, ?_, Int.emod_nonneg _ (by omega), ?_, by omega, by omega⟩⟩
    · split <;> omega
    · have := Int.emod_lt_of_pos c (show (0 : Int) < 2147483629 by omega)
      omega
include F in
theorem read__law_take (h : sp__law_take K vs H Q E) : t__law_take K E { nx := fun _ H' => Q .non H', rt := Q } (start ["_law_bag_here", "_law_limit", "_law_digit", "_law_mixed"] vs) H := by
  match vs, h with
  | [_, _], ⟨b, m, k, rfl, rfl, hk, hk2, ⟨g, s, n, hb, h1, h2, h3, h4, h5⟩, hm, q⟩ =>
    unfold t__law_take
    walk_at "w"
    refine uIx_lst hb rfl ?_
    walk_at "w"
    by_cases hg : 0 < g
    · simp only [hg, if_true]
      refine uIx_lst hb rfl (rInt_int ⟨hk, ?_⟩)
      refine uIx_lst hb rfl ?_
      walk_at "w"
      refine ⟨cdivw_of hk hk2, rSetL_of (j := 0) hb rfl ?_⟩
      walk_at "w"
      refine q _ _ (Int.emod_nonneg _ (by omega)) (Int.emod_lt_of_pos _ hk) off_upd ⟨_, _, _, upd_same, Int.ediv_nonneg h1 (by omega), h2, h3, h4, by omega⟩
    · simp only [hg, if_false]
      refine uIx_lst hb rfl ?_
      walk_at "w"
      refine rSetL_of (j := 2) hb rfl ?_
      have ha : upd H b (.lst ([.int g, .int s, .int n].set 2 (.int (n + 1)))) b = some (.lst [.int g, .int s, .int (n + 1)]) := upd_same
      have ho : Off b H (upd H b (.lst ([.int g, .int s, .int n].set 2 (.int (n + 1))))) := off_upd
      generalize upd H b (.lst ([.int g, .int s, .int n].set 2 (.int (n + 1)))) = H1 at *
      refine uIx_lst ha rfl ?_
      walk_at "w"
      refine uIx_lst ha rfl ?_
      walk_at "w"
      refine ⟨.inl (by omega), ?_⟩
      refine rInt_int ?_
      walk_at "w"
      refine ⟨⟨by omega, by omega, by omega⟩, by omega, ?_⟩
      generalize hx : (s + 32453277 * (n + 1) + 1597) ^ (Int.toNat 5) % 2147483647 = x
      have hx1 : 0 ≤ x ∧ x < 2147483647 := by
        rw [← hx]
        exact ⟨Int.emod_nonneg _ (by omega), Int.emod_lt_of_pos _ (by omega)⟩
      refine uIx_lst ha rfl ?_
      walk_at "w"
      refine ⟨.inl (by omega), ?_⟩
      refine rInt_int ?_
      walk_at "w"
      refine ⟨⟨by omega, by omega, by omega⟩, by omega, ?_⟩
      generalize hy : (x + 104729 * (n + 1)) ^ (Int.toNat 3) % 2147483587 = y
      refine ⟨cdivw_of (by omega) (by omega), ?_⟩
      refine rInt_int ⟨hk, ?_⟩
      exact q _ _ (Int.emod_nonneg _ (by omega)) (Int.emod_lt_of_pos _ hk) ho ⟨_, _, _, ha, h1, h2, h3, by omega, by omega⟩
end
end U
namespace U
open PySem PySem.Spec PyProof.Rows L2

def sp__law_rows (K : PySem.W.Frag) : Sp := sp2 fun x y H Q _ => ∃ (b : Addr) (m : Int) (n : Nat), x = .ref b ∧ y = .int n ∧ 1 ≤ n ∧ n ≤ 60 ∧ Bx H b m ∧ m ≤ 1000000 ∧
  ∀ rows v H', rows.length ≤ n → RowsOk rows → RowV K H' v rows → Off b H H' → Bx H' b (m + 2000) → RowsLo rows → (∃ L as, v = .ref L ∧ PI H' L b as rows) → Q v H'
def t__law_rows (K : PySem.W.Frag) (E : XK) : TS := (tSeq (tPar 2 3 (tCons (tFn (sp__law_take K) E (tCons (tVar 0) (tCons (tC (.int 5)) tNil))) (tCons (tOp (uIx K) (tLst (tCons (tC (.int 0)) (tCons (tC (.int 0)) (tCons (tC (.int 9)) (tCons (tC (.int 4)) tNil))))) (tFn (sp__law_take K) E (tCons (tVar 0) (tCons (tC (.int 4)) tNil)))) tNil))) (tSeq (tAsg (tLst tNil) (gName 4)) (tSeq (tFor (iRng1 (tCons (tOp uAdd (tC (.int 1)) (tFn (sp__law_take K) E (tCons (tVar 0) (tCons (tVar 1) tNil)))) tNil)) (gName 5) (tSeq (tAsg (tLst tNil) (gName 6)) (tSeq (tFor (iRng1 (tCons (tC (.int 6)) tNil)) (gName 7) (tSeq (tAsg (tOp (uIx K) (tLst (tCons (tC (.int 1)) (tCons (tOp uAdd (tC (.int 1)) (tFn (sp__law_take K) E (tCons (tVar 0) (tCons (tC (.int 3)) tNil)))) (tCons (tOp uAdd (tC (.int 1)) (tFn (sp__law_take K) E (tCons (tVar 0) (tCons (tC (.int 9)) tNil)))) (tCons (tOp uAdd (tC (.int 1)) (tFn (sp__law_take K) E (tCons (tVar 0) (tCons (tOp uPow (tC (.int 10)) (tC (.int 6))) tNil)))) (tCons (tOp uSub (tOp uPow (tC (.int 10)) (tC (.int 29))) (tFn (sp__law_take K) E (tCons (tVar 0) (tCons (tC (.int 3)) tNil)))) tNil)))))) (tVar 2)) (gName 8)) (tDrop (tBM K "list" rAppend (tVar 6) (tCons (tIf (tAnd (tTest (tOp uGt (tVar 3) (tC (.int 0)))) (tTest (tOp (uEq K) (tFn (sp__law_take K) E (tCons (tVar 0) (tCons (tVar 3) tNil))) (tC (.int 0))))) (tC .non) (tVar 8)) tNil))))) (tDrop (tBM K "list" rAppend (tVar 4) (tCons (tVar 6) tNil)))))) (tRet (tVar 4)))))
section
variable {K : PySem.W.Frag} (F : KF K) {vs : List V} {H : Hp} {Q : VK} {E : XK}
local macro_rules | `(tactic| walk_at "w") => `(tactic| try simp only [turnE, lcT, Snoc, tRet, tRetN, tAndV, tOrV, tNotV, tCB, tCons, tVar, tNil, tC, tOp, tSeq, tAsg, gName, gSub, tIfS, tDrop, tFn, tTup, tLst, tNext, tB, tTest, tNot, tAnd, tOr, tIf, tChain, tUn, rU, tFld, tPart, tNoPart, L2.tSl, tBM, tPar, tPar3, tTruth, tDNewK,
  L2.start, List.map_cons, List.map_nil, List.length_cons, List.length_nil, List.replicate_succ, List.replicate_zero, List.append_nil, List.nil_append, List.cons_append, List.singleton_append, Nat.sub_self, Nat.zero_add, Nat.reduceAdd, Nat.reduceSub,
  List.getElem?_cons_zero, List.getElem?_cons_succ, List.set_cons_zero, List.set_cons_succ, Option.some.injEq, exists_eq_left, exists_eq_left', V.int.injEq, V.bl.injEq, V.str.injEq, V.ref.injEq,
  uAdd_int, uAdd_str, uSub_int, uMul_int, uMul_str, uDiv_int, uMod_int, uPow_int, uLt_int, uLe_int, uGt_int, uGe_int, uIs_non, uNis_non, uIs_bl, uNis_bl, sp1, sp2, sp3, sp4, uEq_int, uEq_str, uNe_int, uNe_str, uSl_str, uLen_str, decide_eq_true_eq])
local macro_rules | `(tactic| walk_at "1") => `(tactic| try simp only [turnE, lcT, Snoc, tRet, tRetN, tAndV, tOrV, tNotV, tCB, tCons, tVar, tNil, tC, tOp, tAsg, gName, gSub, tIfS, tDrop, tFn, tTup, tLst, tNext, tB, tTest, tNot, tAnd, tOr, tIf, tChain, tUn, rU, tFld, tPart, tNoPart, L2.tSl, tBM, tPar, tPar3, tTruth, tDNewK,
  L2.start, List.map_cons, List.map_nil, List.length_cons, List.length_nil, List.replicate_succ, List.replicate_zero, List.append_nil, List.nil_append, List.cons_append, List.singleton_append, Nat.sub_self, Nat.zero_add, Nat.reduceAdd, Nat.reduceSub,
  List.getElem?_cons_zero, List.getElem?_cons_succ, List.set_cons_zero, List.set_cons_succ, Option.some.injEq, exists_eq_left, exists_eq_left', V.int.injEq, V.bl.injEq, V.str.injEq, V.ref.injEq,
  uAdd_int, uAdd_str, uSub_int, uMul_int, uMul_str, uDiv_int, uMod_int, uPow_int, uLt_int, uLe_int, uGt_int, uGe_int, uIs_non, uNis_non, uIs_bl, uNis_bl, sp1, sp2, sp3, sp4, uEq_int, uEq_str, uNe_int, uNe_str, uSl_str, uLen_str, decide_eq_true_eq])
local macro_rules | `(tactic| walk_at "s") => `(tactic| ((try dsimp only [turnE]); with_reducible refine seq_ ?_))

theorem tFor_rng {t : TA} {g : TG} {tb : TS} {D : Ends} {σ : L2.St} {H : Hp} (h : t σ H fun vs H1 => ∃ j : Int, vs = [.int j] ∧ -(2 ^ 62) ≤ j ∧ j < 2 ^ 62 ∧ tFor (fun _ H' R => R (Itr 0 j.toNat) H') g tb D σ H1) : tFor (iRng1 t) g tb D σ H := h
theorem laps_of {J : It} {xs : List V} {G : Hp → Prop} (P : Plain J xs G) {g : TG} {tb : TS} {D : Ends} {σ : L2.St} {H : Hp} (Pv : Nat → L2.St → Hp → Prop) (h0 : Pv 0 σ H) (hG : ∀ i τ H', Pv i τ H' → G H')
    (hs : ∀ i x τ H, xs[i]? = some x → Pv i τ H → g x τ H fun ρ H2 => tb (turnE D (Pv (i + 1))) ρ H2) (hd : ∀ τ H, Pv xs.length τ H → D.nx τ H) : tFor (fun _ H' R => R J H') g tb D σ H :=
  for_plain P (wi := fun _ H' R => R J H') (fun R r => r) Pv h0 hG hs hd
theorem bars_at {e : Int} (h0 : 0 ≤ e) (h1 : e < 4) : ∃ p : Int, atI [V.int 0, .int 0, .int 9, .int 4] e = some (.int p) ∧ 0 ≤ p ∧ p ≤ 9 := by
  obtain rfl | rfl | rfl | rfl : e = 0 ∨ e = 1 ∨ e = 2 ∨ e = 3 := by omega
  all_goals exact ⟨_, rfl, by omega, by omega⟩
theorem kind_at {a b c d k : Int} (ha : 0 ≤ a) (ha2 : a < 3) (hb : 0 ≤ b) (hb2 : b < 9) (hc : 0 ≤ c) (hc2 : c < 1000000) (hd : 0 ≤ d) (hd2 : d < 3) (h0 : 0 ≤ k) (h1 : k < 5) :
    ∃ p : Int, atI [V.int 1, .int (1 + a), .int (1 + b), .int (1 + c), .int (10 ^ Int.toNat 29 - d)] k = some (.int p) ∧ 0 < p ∧ p < 10 ^ 32 := by
  have t : (10 : Int) ^ Int.toNat 29 = 100000000000000000000000000000 := by decide
  have t2 : (10 : Int) ^ 32 = 100000000000000000000000000000000 := by decide
  rw [t, t2]
  obtain rfl | rfl | rfl | rfl | rfl : k = 0 ∨ k = 1 ∨ k = 2 ∨ k = 3 ∨ k = 4 := by omega
  all_goals exact ⟨_, rfl, by omega, by omega⟩
theorem rows_s0 {b : Addr} {x1 x3 x4 x5 x6 x7 x8 : Option V} {M : Int} {kd : Int} {D : Ends} {H : Hp} (hb : Bx H b M) (hM : M ≤ 100000000) (h0 : 0 ≤ kd) (h1 : kd < 5)
    (q : ∀ p H', 0 < p ∧ p < 10 ^ 32 → Off b H H' → Bx H' b (M + 4) → D.nx [some (.ref b), x1, some (.int kd), x3, x4, x5, x6, x7, some (.int p)] H') :
    (tAsg (tOp (uIx K) (tLst (tCons (tC (.int 1)) (tCons (tOp uAdd (tC (.int 1)) (tFn (sp__law_take K) E (tCons (tVar 0) (tCons (tC (.int 3)) tNil)))) (tCons (tOp uAdd (tC (.int 1)) (tFn (sp__law_take K) E (tCons (tVar 0) (tCons (tC (.int 9)) tNil)))) (tCons (tOp uAdd (tC (.int 1)) (tFn (sp__law_take K) E (tCons (tVar 0) (tCons (tOp uPow (tC (.int 10)) (tC (.int 6))) tNil)))) (tCons (tOp uSub (tOp uPow (tC (.int 10)) (tC (.int 29))) (tFn (sp__law_take K) E (tCons (tVar 0) (tCons (tC (.int 3)) tNil)))) tNil)))))) (tVar 2)) (gName 8)) D [some (.ref b), x1, some (.int kd), x3, x4, x5, x6, x7, x8] H := by
  walk_at "1"
  refine take_of hb (by omega) (by omega) (by omega) fun a H1 a0 a1 o1 b1 => ?_
  walk_at "1"
  refine take_of b1 (by omega) (by omega) (by omega) fun c H2 c0 c1 o2 b2 => ?_
  walk_at "1"
  refine ⟨⟨by omega, by omega, by omega⟩, take_of b2 (by omega) (by decide) (by decide) fun d H3 d0 d1 o3 b3 => ?_⟩
  walk_at "1"
  refine ⟨⟨by omega, by omega, by omega⟩, take_of b3 (by omega) (by omega) (by omega) fun e H4 e0 e1 o4 b4 => ?_⟩
  walk_at "1"
  refine ⟨by decide, fun A hA => ?_⟩
  have d1' : d < 1000000 := by
    have t : (10 : Int) ^ Int.toNat 6 = 1000000 := by decide
    rw [t] at d1
    exact d1
  obtain ⟨p, hp, p0⟩ := kind_at a0 a1 c0 c1 d0 d1' e0 e1 h0 h1
  refine uIx_lst upd_same hp ?_
  exact q p _ p0 (((o1.trans o2).trans (o3.trans o4)).trans (Same.off (same_new hA))) (Bx.upd (b4.mono (by omega)) (b4.ne hA))
theorem rows_s1 {b l : Addr} {x1 x2 x4 x5 x7 : Option V} {M bars p : Int} {xs : List V} {D : Ends} {H : Hp} (hb : Bx H b M) (hM : M ≤ 100000000) (h0 : 0 ≤ bars) (h1 : bars ≤ 9) (hl : H l = some (.lst xs)) (hx : xs.length ≤ 100000) (hlb : l ≠ b)
    (q : ∀ v H', v = .non ∨ v = .int p → Off b H H' → Bx H' b (M + 1) → D.nx [some (.ref b), x1, x2, some (.int bars), x4, x5, some (.ref l), x7, some (.int p)] (upd H' l (.lst (xs ++ [v])))) :
    (tDrop (tBM K "list" rAppend (tVar 6) (tCons (tIf (tAnd (tTest (tOp uGt (tVar 3) (tC (.int 0)))) (tTest (tOp (uEq K) (tFn (sp__law_take K) E (tCons (tVar 0) (tCons (tVar 3) tNil))) (tC (.int 0))))) (tC .non) (tVar 8)) tNil))) D [some (.ref b), x1, x2, some (.int bars), x4, x5, some (.ref l), x7, some (.int p)] H := by
  walk_at "1"
  refine ⟨tyL hl, ?_⟩
  by_cases z : 0 < bars
  · rw [if_pos z]
    refine take_of hb (by omega) z (by omega) fun d H1 d0 d1 o1 b1 => ?_
    walk_at "1"
    have hl1 := o1.lst hl hlb
    by_cases e : d = 0
    · rw [if_pos e]
      exact app_of hl1 hx (q _ _ (.inl rfl) o1 b1)
    · rw [if_neg e]
      exact app_of hl1 hx (q _ _ (.inr rfl) o1 b1)
  · rw [if_neg z]
    rw [if_neg (by decide)]
    exact app_of hl hx (q _ _ (.inr rfl) Off.refl (hb.mono (by omega)))
include F in
theorem read__law_rows (h : sp__law_rows K vs H Q E) : t__law_rows K E { nx := fun _ H' => Q .non H', rt := Q } (start ["_law_bag_here", "_law_most", "_law_kind", "_law_bars", "_law_found", "_law_crate", "_law_line", "_law_way", "_law_price"] vs) H := by
  match vs, h with
  | [_, _], ⟨b, m, n, rfl, rfl, hn1, hn, hb, hm, q⟩ =>
    unfold t__law_rows
    walk_at "s"
    simp only [tPar]
    walk_at "1"
    refine take_of hb (by omega) (by omega) (by omega) fun kd H1 k0 k1 o1 b1 => ?_
    walk_at "1"
    refine ⟨by decide, fun A hA => ?_⟩
    have hAb := b1.ne hA
    refine take_of (b1.upd hAb) (by omega) (by omega) (by omega) fun e H2 e0 e1 o2 b2 => ?_
    obtain ⟨bars, hbars, r0, r1⟩ := bars_at e0 e1
    refine uIx_lst (o2.lst upd_same hAb) hbars ?_
    have o2 : Off b H1 H2 := Off.trans (Same.off (same_new hA)) o2
    refine ⟨_, _, rfl, ?_⟩
    walk_at "s"
    walk_at "1"
    refine ⟨by decide, fun L hL => ?_⟩
    have hLb := b2.ne hL
    have o12 := o1.trans o2
    have hL0 : H L = none := Off.free o12 hLb hL
    have oL : Off b H (upd H2 L (.lst [])) := Off.new o12 hL0
    have gL : upd H2 L (.lst []) L = some (.lst []) := upd_same
    have bL := b2.upd (o := .lst []) hLb
    generalize upd H2 L (.lst []) = H3 at *
    walk_at "s"
    refine tFor_rng ?_
    walk_at "1"
    refine take_of bL (by omega) (by omega) (by omega) fun d H4 d0 d1 o4 b4 => ?_
    walk_at "1"
    obtain ⟨nn, en⟩ : ∃ nn : Nat, 1 + d = (nn : Int) := ⟨(1 + d).toNat, by omega⟩
    refine ⟨_, rfl, by omega, by omega, ?_⟩
    rw [en, Int.toNat_natCast]
    have hLx := o4.lst gL hLb
    have o4 : Off b H H4 := oL.trans o4
    refine laps_of (plain_R (lo := 0) (n := nn)) (fun i τ H' => ∃ as rows o5 o6 o7 o8, τ = [some (.ref b), some (.int n), some (.int kd), some (.int bars), some (.ref L), o5, o6, o7, o8] ∧ PI H' L b as rows ∧ rows.length = i ∧ Bx H' b (m + 3 + 30 * i) ∧ Off b H H')
      ⟨[], [], none, none, none, none, rfl, ⟨hLx, hLb, rfl, (fun r m => nomatch m), fun j a r z => nomatch z⟩, rfl, b4.mono (by omega), o4⟩ (fun _ _ _ _ => trivial) ?_ ?_
    · rintro i x τ H5 hx ⟨as, rows, o5, o6, o7, o8, rfl, hp, hr, hb5, ho5⟩
      have hi : i < nn := by have := (List.getElem?_eq_some_iff.mp hx).1; simpa [intsL] using this
      simp only [gName, List.set_cons_zero, List.set_cons_succ]
      walk_at "s"
      walk_at "1"
      refine ⟨by decide, fun l hl => ?_⟩
      obtain ⟨hlL, hla⟩ := hp.fresh hl
      have hlb := hb5.ne hl
      walk_at "s"
      refine for_rng1 (n := 6) (fun R r => by
        walk_at "1"
        exact r) (by omega) (fun j σ H' => ∃ r o7 o8, σ = [some (.ref b), some (.int n), some (.int kd), some (.int bars), some (.ref L), some x, some (.ref l), o7, o8] ∧ H' l = some (.lst (r.map pV)) ∧ r.length = j ∧ r.all lowP = true ∧ PI H' L b as rows ∧ Bx H' b (m + 3 + 30 * i + 5 * j) ∧ Off b H H')
        ⟨[], o7, o8, rfl, upd_same, rfl, rfl, hp.put hlL hla, (hb5.upd hlb).mono (by omega), ho5.trans (Same.off (same_new hl))⟩ ?_ ?_
      · rintro j σ H6 hj ⟨r, p7, p8, rfl, g1, g2, g3, g4, g5, g6⟩
        simp only [gName, List.set_cons_zero, List.set_cons_succ]
        walk_at "s"
        refine rows_s0 g5 (by omega) k0 k1 fun p H7 p0 o7 b7 => ?_
        refine rows_s1 b7 (by omega) r0 r1 (o7.lst g1 hlb) (by rw [List.length_map, g2]; omega) hlb fun v H8 hv o8 b8 => ?_
        have o68 := o7.trans o8
        have hv2 : ∃ w, v = pV w ∧ lowP w = true := by
          rcases hv with rfl | rfl
          · exact ⟨none, rfl, rfl⟩
          · exact ⟨some p, rfl, decide_eq_true p0⟩
        obtain ⟨w, rfl, hw⟩ := hv2
        refine ⟨r ++ [w], _, _, rfl, by rw [upd_same]; simp, by simp [g2], by simp [g3, hw], (g4.off o68).put hlL hla, Bx.upd (b8.mono (by omega)) hlb, Off.new (g6.trans o68) ?_⟩
        exact Off.free ho5 hlb hl
      · rintro σ H6 ⟨r, p7, p8, rfl, g1, g2, g3, g4, g5, g6⟩
        walk_at "1"
        refine ⟨tyL g4.1, app_of g4.1 (by rw [List.length_map, g4.2.2.1]; omega) ?_⟩
        exact ⟨as ++ [l], rows ++ [r], _, _, _, _, rfl, g4.push g1 hlL hlb g2 g3, by simp [hr], Bx.upd (g5.mono (by omega)) hLb, Off.new g6 hL0⟩
    · rintro τ H5 ⟨as, rows, o5, o6, o7, o8, rfl, hp, hr, hb5, ho5⟩
      have e : (intsL 0 nn).length = nn := by simp [intsL]
      rw [e] at hr hb5
      walk_at "1"
      exact q rows _ _ (by omega) ⟨by omega, by omega, fun r m => ⟨(hp.2.2.2.1 r m).1, lowL_ok (hp.2.2.2.1 r m).2⟩⟩ hp.rowV ho5 (hb5.mono (by omega)) (fun r m => (hp.2.2.2.1 r m).2) ⟨L, as, rfl, hp⟩
end
end U
namespace U
open PySem PySem.Spec PyProof.Rows L2

/-! ### data that is no prices of a yard -/
/-- shown in at most B signs, at most D deep -/
def Slim (B D : Nat) (d : PyData) : Prop := d.showable = true ∧ d.depth ≤ D ∧ d.shown.length ≤ B ∧ fine d = true
theorem Slim.mono {B D B' D' : Nat} {d : PyData} (h : Slim B D d) (hb : B ≤ B') (hd : D ≤ D') : Slim B' D' d := ⟨h.1, Nat.le_trans h.2.1 hd, Nat.le_trans h.2.2.1 hb, h.2.2.2⟩
theorem slim_list {ds : List PyData} {B D n : Nat} (h : ∀ d ∈ ds, Slim B D d) (hn : ds.length ≤ n) : Slim ((B + 2) * n + 3) (D + 1) (.list ds) := by
  have key : ∀ l : List PyData, (∀ d ∈ l, Slim B D d) → PyData.showableAll l = true ∧ PyData.depthAll l ≤ D ∧ ((PyData.shownAll l).map (·.length)).sum ≤ B * l.length ∧ fineAll l = true := by
    intro l
    induction l with
    | nil => intro _; exact ⟨by simp [PyData.showableAll], by simp [PyData.depthAll], by simp [PyData.shownAll], by simp [fineAll]⟩
    | cons x r ih =>
      intro h
      obtain ⟨a1, a2, a3, a4⟩ := h x List.mem_cons_self
      obtain ⟨b1, b2, b3, b4⟩ := ih fun d m => h d (List.mem_cons_of_mem _ m)
      refine ⟨?_, ?_, ?_, ?_⟩
      · rw [PyData.showableAll, a1, b1]; rfl
      · rw [PyData.depthAll]; exact Nat.max_le.mpr ⟨a2, b2⟩
      · rw [PyData.shownAll, List.map_cons, List.sum_cons, List.length_cons, Nat.mul_succ]; omega
      · rw [fineAll, a4, b4]; rfl
  obtain ⟨k1, k2, k3, k4⟩ := key ds h
  refine ⟨?_, ?_, ?_, ?_⟩
  · rw [PyData.showable]; exact k1
  · rw [PyData.depth]; omega
  · have a := listText_len_le (PyData.shownAll ds)
    have c := PyData.shownAll_length ds
    have e : (PyData.list ds).shown = listText (PyData.shownAll ds) := by simp only [PyData.shown]
    have m1 : (B + 2) * ds.length ≤ (B + 2) * n := Nat.mul_le_mul_left _ hn
    rw [e]
    rw [Nat.add_mul] at m1
    rw [Nat.add_mul]
    rw [Nat.add_mul] at m1
    omega
  · rw [fine]; exact k4
/-- an entry of a line of prices, or what stands there instead -/
def Atom (K : PySem.W.Frag) (H : Hp) (x : V × PyData) : Prop := Dq K H x.1 x.2 ∧ (∃ a, Is K H x.1 a) ∧ Slim 40 1 x.2
theorem Atom.same {K : PySem.W.Frag} {H H' : Hp} {x : V × PyData} (h : Atom K H x) (e : Same H H') : Atom K H' x := by
  obtain ⟨h1, ⟨a, h2⟩, h3⟩ := h
  exact ⟨h1.same e, ⟨a, h2.same e⟩, h3⟩
def pE : Option Int → V × PyData
  | none => (.non, .none)
  | some i => (.int i, .int i)
theorem pE_v (o : Option Int) : (pE o).1 = pV o := by cases o <;> rfl
theorem atom_p {K : PySem.W.Frag} {H : Hp} {o : Option Int} (h : lowP o = true) : Atom K H (pE o) := by
  cases o with
  | none => exact ⟨.qnon, ⟨_, is_non⟩, by show PyData.showable .none = true; simp [PyData.showable], by show PyData.depth .none ≤ 1; simp [PyData.depth], by show (PyData.shown .none).length ≤ 40; rw [PyData.shown]; decide, rfl⟩
  | some i =>
    have h := of_decide_eq_true h
    have big : i.natAbs < 10 ^ 32 := by
      have e : (10 : Int) ^ 32 = 100000000000000000000000000000000 := by decide
      rw [e] at h
      omega
    refine ⟨.qint i, ⟨_, is_int i⟩, ?_, by show PyData.depth (.int i) ≤ 1; simp [PyData.depth], ?_, by show fine (.int i) = true; simp [fine]⟩
    · show PyData.showable (.int i) = true
      rw [PyData.showable]
      have : i.natAbs.log2 < 128 := by
        by_cases z : i.natAbs = 0
        · rw [z]; decide
        · exact (Nat.log2_lt z).mpr (Nat.lt_of_lt_of_le big (by decide))
      refine decide_eq_true (by omega)
    · show (PyData.shown (.int i)).length ≤ 40
      rw [PyData.shown_int]
      have e := int_text_length_le10 (k := 32) (by decide) big
      show (Str.ofString (toString i)).length ≤ 40
      rw [PySem.ofString_length]
      omega
/-- a list of items: its line's judgement, its data -/
def Item (K : PySem.W.Frag) (H : Hp) (x : V × Bool × PyData) : Prop := RowB K H x.1 x.2.1 ∧ Dq K H x.1 x.2.2 ∧ Slim 400 3 x.2.2
section
variable {K : PySem.W.Frag} {H : Hp} {E : XK}
theorem dq_all {α : Type} {f : α → V} {g : α → PyData} : ∀ {l : List α}, (∀ x ∈ l, Dq K H (f x) (g x)) → DqAll K H (l.map f) (l.map g)
  | [], _ => .qnil
  | x :: r, h => .qcons (h x List.mem_cons_self) (dq_all fun y m => h y (List.mem_cons_of_mem _ m))
theorem row_item {a : Addr} {es : List (V × PyData)} (ha : SqL K H a (es.map (·.1))) (h : ∀ e ∈ es, Atom K H e) (few : es.length ≤ 7) : Item K H (.ref a, decide (es.length = 6) && (es.map (·.1)).all isPB, .list (es.map (·.2))) := by
  refine ⟨.inr ⟨a, _, rfl, .inl ha, fun v m => ?_, by rw [List.length_map]⟩, .qlst ha (dq_all fun x m => (h x m).1), ?_⟩
  · obtain ⟨e, m2, rfl⟩ := List.mem_map.mp m
    exact (h e m2).2.1
  · refine (slim_list (B := 40) (D := 1) (n := 7) (fun d m => ?_) (by rw [List.length_map]; exact few)).mono (by decide) (by decide)
    obtain ⟨e, m2, rfl⟩ := List.mem_map.mp m
    exact (h e m2).2.2
end
end U
namespace U
open PySem PySem.Spec PyProof.Rows L2

def sp__law_word (_K : PySem.W.Frag) : Sp := sp2 fun x y H Q _ => ∃ (b : Addr) (m : Int) (n : Nat), x = .ref b ∧ y = .int n ∧ n ≤ 60 ∧ Bx H b m ∧ m ≤ 1000000 ∧ ∀ ds H', ds.length = n → D3 ds → Off b H H' → Bx H' b (m + 60) → Q (.str (wd ds)) H'
/-- the doors by their numbers -/
def Ask (K : PySem.W.Frag) (H : Hp) (y x z : V) (Q : VK) (E : XK) : Nat → Prop
  | 0 => sp_tables K [y] H Q E
  | 1 => sp_tower_cost K [y, x] H Q E
  | 2 => sp_is_paper K [y, x] H Q E
  | 3 => sp_straight_ways K [y] H Q E
  | 4 => sp_told_cost K [y, x, z] H Q E
  | 5 => sp_to_towers K [y, x] H Q E
  | 6 => sp_from_towers K [y, x] H Q E
  | 7 => sp_least K [y, x, z] H Q E
  | 8 => sp_largest_moving K [y, x, z] H Q E
  | 9 => sp_paper K [y, x, z] H Q E
  | 10 => sp_is_cost_paper K [y, x, z, .non] H Q E
  | _ => sp_shown_cost K [y, x, z, .non] H Q E
def sp__law_asked (K : PySem.W.Frag) : Sp := sp4 fun w y x z H Q E => ∃ i : Nat, w = .int (i : Nat) ∧ i ≤ 10 ∧ Ask K H y x z Q E i
def t__law_word (K : PySem.W.Frag) (E : XK) : TS := (tRet (tJoin K (tC (.str "")) (tLc (iRng1 (tCons (tVar 1) tNil)) (gName 2) tYes (tOp (uIx K) (tC (.str "abc")) (tFn (sp__law_take K) E0 (tCons (tVar 0) (tCons (tC (.int 3)) tNil)))) [2])))
def t__law_asked (K : PySem.W.Frag) (E : XK) : TS := (tSeq (tIfS (tTest (tOp (uEq K) (tVar 0) (tC (.int 0)))) (tRet (tFn (sp_tables K) E (tCons (tVar 1) tNil))) tNext) (tSeq (tIfS (tTest (tOp (uEq K) (tVar 0) (tC (.int 1)))) (tRet (tFn (sp_tower_cost K) E (tCons (tVar 1) (tCons (tVar 2) tNil)))) tNext) (tSeq (tIfS (tTest (tOp (uEq K) (tVar 0) (tC (.int 2)))) (tRet (tFn (sp_is_paper K) E (tCons (tVar 1) (tCons (tVar 2) tNil)))) tNext) (tSeq (tIfS (tTest (tOp (uEq K) (tVar 0) (tC (.int 3)))) (tRet (tFn (sp_straight_ways K) E (tCons (tVar 1) tNil))) tNext) (tSeq (tIfS (tTest (tOp (uEq K) (tVar 0) (tC (.int 4)))) (tRet (tFn (sp_told_cost K) E (tCons (tVar 1) (tCons (tVar 2) (tCons (tVar 3) tNil))))) tNext) (tSeq (tIfS (tTest (tOp (uEq K) (tVar 0) (tC (.int 5)))) (tRet (tFn (sp_to_towers K) E (tCons (tVar 1) (tCons (tVar 2) tNil)))) tNext) (tSeq (tIfS (tTest (tOp (uEq K) (tVar 0) (tC (.int 6)))) (tRet (tFn (sp_from_towers K) E (tCons (tVar 1) (tCons (tVar 2) tNil)))) tNext) (tSeq (tIfS (tTest (tOp (uEq K) (tVar 0) (tC (.int 7)))) (tRet (tFn (sp_least K) E (tCons (tVar 1) (tCons (tVar 2) (tCons (tVar 3) tNil))))) tNext) (tSeq (tIfS (tTest (tOp (uEq K) (tVar 0) (tC (.int 8)))) (tRet (tFn (sp_largest_moving K) E (tCons (tVar 1) (tCons (tVar 2) (tCons (tVar 3) tNil))))) tNext) (tRet (tIf (tTest (tOp (uEq K) (tVar 0) (tC (.int 9)))) (tFn (sp_paper K) E (tCons (tVar 1) (tCons (tVar 2) (tCons (tVar 3) tNil)))) (tFn (sp_is_cost_paper K) E (tCons (tVar 1) (tCons (tVar 2) (tCons (tVar 3) (tCons (tC .non) tNil))))))))))))))))
theorem join_pl (ds : List Nat) : Txt.join "" (ds.map pl) = wd ds := by
  have key : ∀ (l : List Nat) (acc : Array Nat), ((l.map pl).foldl (fun acc p => acc ++ ("" : Str).cps ++ p.cps) acc).toList = acc.toList ++ l.map (97 + ·) := by
    intro l
    induction l with
    | nil => intro acc; simp
    | cons a l ih =>
      intro acc
      rw [List.map_cons, List.foldl_cons, ih]
      have e0 : ("" : Str).cps = #[] := by decide
      simp [pl, e0]
  have ext : ∀ a b : Str, a.cps.toList = b.cps.toList → a = b := fun a b h => by
    obtain ⟨a⟩ := a
    obtain ⟨b⟩ := b
    exact congrArg Str.mk (Array.toList_inj.mp h)
  apply ext
  cases ds with
  | nil => rfl
  | cons a l =>
    show (((l.map pl).foldl (fun acc p => acc ++ ("" : Str).cps ++ p.cps) (pl a).cps)).toList = _
    rw [key]
    simp [pl, wd]
section
variable {K : PySem.W.Frag} (F : KF K) {vs : List V} {H : Hp} {Q : VK} {E : XK}
local macro_rules | `(tactic| walk_at "w") => `(tactic| try simp only [turnE, lcT, Snoc, tRet, tRetN, tAndV, tOrV, tNotV, tCB, tCons, tVar, tNil, tC, tOp, tSeq, tAsg, gName, gSub, tIfS, tDrop, tFn, tTup, tLst, tNext, tB, tTest, tNot, tAnd, tOr, tIf, tChain, tUn, rU, tFld, tPart, tNoPart, L2.tSl, tBM, tPar, tPar3, tTruth, tDNewK,
  L2.start, List.map_cons, List.map_nil, List.length_cons, List.length_nil, List.replicate_succ, List.replicate_zero, List.append_nil, List.nil_append, List.cons_append, List.singleton_append, Nat.sub_self, Nat.zero_add, Nat.reduceAdd, Nat.reduceSub,
  List.getElem?_cons_zero, List.getElem?_cons_succ, List.set_cons_zero, List.set_cons_succ, Option.some.injEq, exists_eq_left, exists_eq_left', V.int.injEq, V.bl.injEq, V.str.injEq, V.ref.injEq,
  uAdd_int, uAdd_str, uSub_int, uMul_int, uMul_str, uDiv_int, uMod_int, uPow_int, uLt_int, uLe_int, uGt_int, uGe_int, uIs_non, uNis_non, uIs_bl, uNis_bl, sp1, sp2, sp3, sp4, uEq_int, uEq_str, uNe_int, uNe_str, uSl_str, uLen_str, decide_eq_true_eq])
local macro_rules | `(tactic| walk_at "1") => `(tactic| try simp only [turnE, lcT, Snoc, tRet, tRetN, tAndV, tOrV, tNotV, tCB, tCons, tVar, tNil, tC, tOp, tAsg, gName, gSub, tIfS, tDrop, tFn, tTup, tLst, tNext, tB, tTest, tNot, tAnd, tOr, tIf, tChain, tUn, rU, tFld, tPart, tNoPart, L2.tSl, tBM, tPar, tPar3, tTruth, tDNewK,
  L2.start, List.map_cons, List.map_nil, List.length_cons, List.length_nil, List.replicate_succ, List.replicate_zero, List.append_nil, List.nil_append, List.cons_append, List.singleton_append, Nat.sub_self, Nat.zero_add, Nat.reduceAdd, Nat.reduceSub,
  List.getElem?_cons_zero, List.getElem?_cons_succ, List.set_cons_zero, List.set_cons_succ, Option.some.injEq, exists_eq_left, exists_eq_left', V.int.injEq, V.bl.injEq, V.str.injEq, V.ref.injEq,
  uAdd_int, uAdd_str, uSub_int, uMul_int, uMul_str, uDiv_int, uMod_int, uPow_int, uLt_int, uLe_int, uGt_int, uGe_int, uIs_non, uNis_non, uIs_bl, uNis_bl, sp1, sp2, sp3, sp4, uEq_int, uEq_str, uNe_int, uNe_str, uSl_str, uLen_str, decide_eq_true_eq])
local macro_rules | `(tactic| walk_at "s") => `(tactic| ((try dsimp only [turnE]); with_reducible refine seq_ ?_))

include F in
theorem read__law_word (h : sp__law_word K vs H Q E) : t__law_word K E { nx := fun _ H' => Q .non H', rt := Q } (start ["_law_bag_here", "_law_count", "_law_crate"] vs) H := by
  match vs, h with
  | [_, _], ⟨b, m, n, rfl, rfl, hn, hb, hm, q⟩ =>
    unfold t__law_word sp__law_take
    simp only [tRet, tJoin, tM1, tC]
    refine ⟨⟨_, rfl⟩, ?_⟩
    refine tLc_rng1 (n := n) (fun R r => by
      walk_at "w"
      exact r) (by omega) fun D hD => ?_
    obtain ⟨l0, hb0⟩ := hb.at_
    have hDb : D ≠ b := by rintro rfl; rw [hD] at hb0; cases hb0
    refine lc_plain plain_R (fun i H' => ∃ ds, ds.length = i ∧ D3 ds ∧ H' D = some (.lst (ds.map fun d => V.str (pl d))) ∧ Bx H' b (m + i) ∧ Off b H H') ⟨[], rfl, (fun d z => nomatch z), upd_same, (hb.same (same_new hD)).mono (by omega), Same.off (same_new hD)⟩ (fun _ _ _ => trivial) ?_ ?_
    · rintro i x H1 hx ⟨ds, h1, h2, h3, h4, h5⟩
      have lt : i < n := by have := (List.getElem?_eq_some_iff.mp hx).1; simpa [intsL] using this
      simp only [lcT, wipe]
      walk_at "w"
      refine ⟨trivial, ?_⟩
      simp only [tYes, if_true]
      walk_at "w"
      refine ⟨b, m + i, 3, rfl, rfl, by omega, by omega, h4, by omega, fun d H2 d0 d1 o2 b2 => ?_⟩
      refine abc_at d0 d1 ⟨_, o2.lst h3 hDb, ?_, ds ++ [d.toNat], ?_, ?_, ?_, ?_, ?_⟩
      · rw [List.length_map, h1]
        exact Nat.lt_of_lt_of_le (show _ < 61 by omega) (by decide)
      · simp [h1]
      · intro e m
        rcases List.mem_append.mp m with m | m
        · exact h2 e m
        · have := List.mem_singleton.mp m
          omega
      · rw [upd_same]
        simp
      · exact Bx.upd (b2.mono (by omega)) hDb
      · exact Off.new (h5.trans o2) hD
    · rintro H1 ⟨ds, h1, h2, h3, h4, h5⟩
      have hl : (intsL 0 n).length = n := by simp [intsL]
      rw [hl] at h1 h4
      refine ⟨_, D, ds.map pl, rfl, rfl, .inl (.inl (.inl ?_)), ?_, ?_⟩
      · rw [h3, List.map_map]
        rfl
      · have : ∀ l : List Nat, ((l.map pl).map (·.length)).sum = l.length := by
          intro l
          induction l with
          | nil => rfl
          | cons a l ih => simp only [List.map_cons, List.sum_cons, ih, List.length_cons]; show 1 + _ = _; omega
        rw [this, List.length_map, h1]
        show n + n * 0 ≤ _
        omega
      · rw [join_pl]
        exact q ds H1 h1 h2 h5 (h4.mono (by omega))
include F in
theorem read__law_asked (h : sp__law_asked K vs H Q E) : t__law_asked K E { nx := fun _ H' => Q .non H', rt := Q } (start ["_law_way", "_law_yard", "_law_one", "_law_two"] vs) H := by
  match vs, h with
  | [_, y, x, z], ⟨i, rfl, hi, h⟩ =>
    unfold t__law_asked
    match i, hi, h with
    | 0, _, h =>
      walk_at "s"
      walk_at "1"
      rw [if_pos (by decide)]
      exact h
    | 1, _, h =>
      iterate 1 (walk_at "s"; walk_at "1"; rw [if_neg (by decide)])
      walk_at "s"
      walk_at "1"
      rw [if_pos (by decide)]
      exact h
    | 2, _, h =>
      iterate 2 (walk_at "s"; walk_at "1"; rw [if_neg (by decide)])
      walk_at "s"
      walk_at "1"
      rw [if_pos (by decide)]
      exact h
    | 3, _, h =>
      iterate 3 (walk_at "s"; walk_at "1"; rw [if_neg (by decide)])
      walk_at "s"
      walk_at "1"
      rw [if_pos (by decide)]
      exact h
    | 4, _, h =>
      iterate 4 (walk_at "s"; walk_at "1"; rw [if_neg (by decide)])
      walk_at "s"
      walk_at "1"
      rw [if_pos (by decide)]
      exact h
    | 5, _, h =>
      iterate 5 (walk_at "s"; walk_at "1"; rw [if_neg (by decide)])
      walk_at "s"
      walk_at "1"
      rw [if_pos (by decide)]
      exact h
    | 6, _, h =>
      iterate 6 (walk_at "s"; walk_at "1"; rw [if_neg (by decide)])
      walk_at "s"
      walk_at "1"
      rw [if_pos (by decide)]
      exact h
    | 7, _, h =>
      iterate 7 (walk_at "s"; walk_at "1"; rw [if_neg (by decide)])
      walk_at "s"
      walk_at "1"
      rw [if_pos (by decide)]
      exact h
    | 8, _, h =>
      iterate 8 (walk_at "s"; walk_at "1"; rw [if_neg (by decide)])
      walk_at "s"
      walk_at "1"
      rw [if_pos (by decide)]
      exact h
    | 9, _, h =>
      iterate 9 (walk_at "s"; walk_at "1"; rw [if_neg (by decide)])
      walk_at "1"
      rw [if_pos (by decide)]
      exact h
    | 10, _, h =>
      iterate 9 (walk_at "s"; walk_at "1"; rw [if_neg (by decide)])
      walk_at "1"
      rw [if_neg (by decide)]
      exact h
    | n + 11, hi, _ => exact absurd hi (by omega)
end
end U
namespace U
open PySem PySem.Spec PyProof.Rows L2

/-- the law's words for the exceptions -/
def excs : List (Str × Str) := [("InvalidYard", "yard"), ("InvalidArrangement", "word"), ("InvalidWay", "way"), ("InvalidPaper", "paper")]
def wordOf (f : Str) : Str := (excs.lookup f).getD ""
def Told (K : PySem.W.Frag) (H : Hp) (v : V) (d : PyData) : Prop := Dq K H v d ∧ d.showable = true ∧ d.depth ≤ 60 ∧ d.shown.length ≤ sizeLine
/-- how a door ends: Rn, or an exception Rx -/
def Out (K : PySem.W.Frag) (H : Hp) (y x z : V) (i : Nat) (Rn : Hp → Prop) (Rx : Str → V → Hp → Prop) : Prop := ∀ (Q1 : VK) (E1 : XK), (∀ v H1, Rn H1 → Q1 v H1) → (∀ f v d H1, Rx f v H1 → H1 d = some (.xd [("value", v)]) → E1 (.ref (He.ga K f)) (some d) H1) → Ask K H y x z Q1 E1 i
def sp__law_caught (K : PySem.W.Frag) : Sp := sp4 fun w y x z H Q _ => ∃ (i : Nat) (Rn : Hp → Prop) (Rx : Str → V → Hp → Prop), w = .int (i : Nat) ∧ i ≤ 11 ∧ Out K H y x z i Rn Rx ∧ (∀ H1, Rn H1 → ∀ l H', Same H1 H' → H1 l = none → H' l = some (.lst [.str "none"]) → Q (.ref l) H') ∧
  (∀ f v H1, Rx f v H1 → f ∈ excN ∧ ∃ dd, Told K H1 v dd ∧ ∀ l H', Same H1 H' → H1 l = none → H' l = some (.lst [.str (wordOf f), .str dd.shown]) → Q (.ref l) H')
def t__law_caught (K : PySem.W.Frag) (E : XK) : TS := (tSeq (tTry (fun cls d _ H => E cls d H) (fun W => (tIfS (tTest (tOp (uEq K) (tVar 0) (tC (.int 11)))) (tDrop (tFnS (sp_shown_cost K) W (tCons (tVar 1) (tCons (tVar 2) (tCons (tVar 3) (tCons (tC .non) tNil)))))) (tDrop (tFnS (sp__law_asked K) W (tCons (tVar 0) (tCons (tVar 1) (tCons (tVar 2) (tCons (tVar 3) tNil)))))))) [⟨(fun cls => PySem.W.exmAny K cls [.ref (He.ga K "InvalidYard"), .ref (He.ga K "InvalidArrangement"), .ref (He.ga K "InvalidWay"), .ref (He.ga K "InvalidPaper")]), some 4, fun a cls d => (tSeq (tAsg (tLst (tCons (tCB (rIsX K a cls d) (tCons (tVar 4) (tCons (tC (.ref (He.ga K "InvalidYard"))) tNil))) (tCons (tCB (rIsX K a cls d) (tCons (tVar 4) (tCons (tC (.ref (He.ga K "InvalidArrangement"))) tNil))) (tCons (tCB (rIsX K a cls d) (tCons (tVar 4) (tCons (tC (.ref (He.ga K "InvalidWay"))) tNil))) (tCons (tC (.bl true)) tNil))))) (gName 5)) (tRet (tLst (tCons (tOp (uIx K) (tLst (tCons (tC (.str "yard")) (tCons (tC (.str "word")) (tCons (tC (.str "way")) (tCons (tC (.str "paper")) tNil))))) (tBM K "list" (rIndex K) (tVar 5) (tCons (tC (.bl true)) tNil))) (tCons (tCB (uReprQ K) (tCons (tXv K a cls d "value" (tVar 4)) tNil)) tNil)))))⟩, ⟨(fun cls => PySem.W.exmOne K cls (.ref (He.ga K "CratesError"))), none, fun a cls d => (tRet (tLst (tCons (tC (.str "another")) tNil)))⟩]) (tRet (tLst (tCons (tC (.str "none")) tNil))))
/-- the suite of the law's first clause -/
def suiteC (K : PySem.W.Frag) (a : Addr) (cls : Value) (d : Option Addr) : TS := (tSeq (tAsg (tLst (tCons (tCB (rIsX K a cls d) (tCons (tVar 4) (tCons (tC (.ref (He.ga K "InvalidYard"))) tNil))) (tCons (tCB (rIsX K a cls d) (tCons (tVar 4) (tCons (tC (.ref (He.ga K "InvalidArrangement"))) tNil))) (tCons (tCB (rIsX K a cls d) (tCons (tVar 4) (tCons (tC (.ref (He.ga K "InvalidWay"))) tNil))) (tCons (tC (.bl true)) tNil))))) (gName 5)) (tRet (tLst (tCons (tOp (uIx K) (tLst (tCons (tC (.str "yard")) (tCons (tC (.str "word")) (tCons (tC (.str "way")) (tCons (tC (.str "paper")) tNil))))) (tBM K "list" (rIndex K) (tVar 5) (tCons (tC (.bl true)) tNil))) (tCons (tCB (uReprQ K) (tCons (tXv K a cls d "value" (tVar 4)) tNil)) tNil)))))
section
variable {K : PySem.W.Frag} (F : KF K) (C : XF K "CratesError" excN) {vs : List V} {H : Hp} {Q : VK} {E : XK}
local macro_rules | `(tactic| walk_at "w") => `(tactic| try simp only [turnE, lcT, Snoc, tRet, tRetN, tAndV, tOrV, tNotV, tCB, tCons, tVar, tNil, tC, tOp, tSeq, tAsg, gName, gSub, tIfS, tDrop, tFn, tTup, tLst, tNext, tB, tTest, tNot, tAnd, tOr, tIf, tChain, tUn, rU, tFld, tPart, tNoPart, L2.tSl, tBM, tPar, tPar3, tTruth, tDNewK,
  L2.start, List.map_cons, List.map_nil, List.length_cons, List.length_nil, List.replicate_succ, List.replicate_zero, List.append_nil, List.nil_append, List.cons_append, List.singleton_append, Nat.sub_self, Nat.zero_add, Nat.reduceAdd, Nat.reduceSub,
  List.getElem?_cons_zero, List.getElem?_cons_succ, List.set_cons_zero, List.set_cons_succ, Option.some.injEq, exists_eq_left, exists_eq_left', V.int.injEq, V.bl.injEq, V.str.injEq, V.ref.injEq,
  uAdd_int, uAdd_str, uSub_int, uMul_int, uMul_str, uDiv_int, uMod_int, uPow_int, uLt_int, uLe_int, uGt_int, uGe_int, uIs_non, uNis_non, uIs_bl, uNis_bl, sp1, sp2, sp3, sp4, uEq_int, uEq_str, uNe_int, uNe_str, uSl_str, uLen_str, decide_eq_true_eq])
local macro_rules | `(tactic| walk_at "1") => `(tactic| try simp only [turnE, lcT, Snoc, tRet, tRetN, tAndV, tOrV, tNotV, tCB, tCons, tVar, tNil, tC, tOp, tAsg, gName, gSub, tIfS, tDrop, tFn, tTup, tLst, tNext, tB, tTest, tNot, tAnd, tOr, tIf, tChain, tUn, rU, tFld, tPart, tNoPart, L2.tSl, tBM, tPar, tPar3, tTruth, tDNewK,
  L2.start, List.map_cons, List.map_nil, List.length_cons, List.length_nil, List.replicate_succ, List.replicate_zero, List.append_nil, List.nil_append, List.cons_append, List.singleton_append, Nat.sub_self, Nat.zero_add, Nat.reduceAdd, Nat.reduceSub,
  List.getElem?_cons_zero, List.getElem?_cons_succ, List.set_cons_zero, List.set_cons_succ, Option.some.injEq, exists_eq_left, exists_eq_left', V.int.injEq, V.bl.injEq, V.str.injEq, V.ref.injEq,
  uAdd_int, uAdd_str, uSub_int, uMul_int, uMul_str, uDiv_int, uMod_int, uPow_int, uLt_int, uLe_int, uGt_int, uGe_int, uIs_non, uNis_non, uIs_bl, uNis_bl, sp1, sp2, sp3, sp4, uEq_int, uEq_str, uNe_int, uNe_str, uSl_str, uLen_str, decide_eq_true_eq])
local macro_rules | `(tactic| walk_at "s") => `(tactic| ((try dsimp only [turnE]); with_reducible refine seq_ ?_))

include C in
theorem is_exc {f c : Str} (hf : f ∈ excN) (hc : c ∈ excN) : PySem.W.kitOne K (.ref (He.ga K f)) (.ref (He.ga K c)) = some (decide (c = f)) ∧ PySem.W.exmOne K (.ref (He.ga K f)) (.ref (He.ga K c)) = some (decide (c = f)) := by
  have e1 := C.i f hf c (List.mem_cons_of_mem _ hc)
  have e2 := C.m f hf c (List.mem_cons_of_mem _ hc)
  have n : c ≠ ("CratesError" : Str) := by
    rintro rfl
    revert hc
    decide
  have e : decide (c = ("CratesError" : Str) ∨ c = f) = decide (c = f) := decide_eq_decide.mpr ⟨fun z => z.resolve_left n, .inr⟩
  exact ⟨e ▸ e1, e ▸ e2⟩
include C in
theorem exm_six {f : Str} (hf : f ∈ excN) : PySem.W.exmAny K (.ref (He.ga K f)) (excN.map fun c => .ref (He.ga K c)) = some true := by
  have key : ∀ l : List Str, (∀ c ∈ l, c ∈ excN) → PySem.W.exmAny K (.ref (He.ga K f)) (l.map fun c => .ref (He.ga K c)) = some (decide (f ∈ l)) := by
    intro l
    induction l with
    | nil => intro _; rfl
    | cons c r ih =>
      intro h
      rw [List.map_cons, PySem.W.exmAny, (is_exc C hf (h c List.mem_cons_self)).2, ih fun x m => h x (List.mem_cons_of_mem _ m)]
      have e : decide (f ∈ c :: r) = (decide (c = f) || decide (f ∈ r)) := by
        by_cases e : c = f
        · subst e
          rw [decide_eq_true rfl, Bool.true_or]
          exact decide_eq_true List.mem_cons_self
        · rw [decide_eq_false e, Bool.false_or]
          exact decide_eq_decide.mpr ⟨fun m => (List.mem_cons.mp m).resolve_left fun z => e z.symm, List.mem_cons_of_mem _⟩
      rw [e]
  rw [key excN fun _ m => m, decide_eq_true hf]
include C in
theorem isX_of {a d : Addr} {f c : Str} {v : V} (hf : f ∈ excN) (hc : c ∈ excN) (hd : H d = some (.xd [("value", v)])) (q : Q (.bl (decide (c = f))) H) : rIsX K a (.ref (He.ga K f)) (some d) [.ref a, .ref (He.ga K c)] H Q :=
  ⟨_, _, d, _, _, rfl, rfl, rfl, hd, C.c f hf, (is_exc C hf hc).1, q⟩
def flagsB (f : Str) : List Bool := [decide (("InvalidYard" : Str) = f), decide (("InvalidArrangement" : Str) = f), decide (("InvalidWay" : Str) = f), true]
def words : List V := [.str "yard", .str "word", .str "way", .str "paper"]
theorem flag_at {f : Str} (hf : f ∈ excN) : ∃ (j : Nat) (r : List Bool), flagsB f = List.replicate j false ++ true :: r ∧ atI words j = some (.str (wordOf f)) := by
  unfold excN at hf
  simp only [List.mem_cons, List.not_mem_nil, or_false] at hf
  rcases hf with rfl | rfl | rfl | rfl
  · exact ⟨0, [false, false, true], by decide +kernel, rfl⟩
  · exact ⟨1, [false, true], by decide +kernel, rfl⟩
  · exact ⟨2, [true], by decide +kernel, rfl⟩
  · exact ⟨3, [], by decide +kernel, rfl⟩
include C in
theorem caught_suite {a d : Addr} {f : Str} {v : V} {dd : PyData} {x1 x2 x3 x4 x6 : Option V} {D : Ends} (hf : f ∈ excN) (hd : H d = some (.xd [("value", v)])) (ht : Told K H v dd) (q : ∀ l H', Same H H' → H l = none → H' l = some (.lst [.str (wordOf f), .str dd.shown]) → D.rt (.ref l) H') :
    suiteC K a (.ref (He.ga K f)) (some d) D [x1, x2, x3, x4, some (.ref a), x6] H := by
  unfold suiteC
  walk_at "s"
  walk_at "1"
  refine isX_of C hf (by decide) hd ?_
  walk_at "1"
  refine isX_of C hf (by decide) hd ?_
  walk_at "1"
  refine isX_of C hf (by decide) hd ?_
  walk_at "1"
  refine ⟨by decide, fun p1 hp1 => ?_⟩
  have g3 : upd H p1 (.lst ((flagsB f).map V.bl)) p1 = some (.lst ((flagsB f).map V.bl)) := upd_same
  have s3 : Same H (upd H p1 (.lst ((flagsB f).map V.bl))) := same_new hp1
  show _ ∧ ∀ p, upd H p1 (.lst ((flagsB f).map V.bl)) p = none → tyV K "list" (.ref p1) (upd (upd H p1 (.lst ((flagsB f).map V.bl))) p (.lst words)) ∧ rIndex K (.ref p1) _ (upd (upd H p1 (.lst ((flagsB f).map V.bl))) p (.lst words)) _
  generalize upd H p1 (.lst ((flagsB f).map V.bl)) = H3 at *
  refine ⟨by decide, fun p4 hp4 => ?_⟩
  have g4 : upd H3 p4 (.lst words) p4 = some (.lst words) := upd_same
  have s4 : Same H3 (upd H3 p4 (.lst words)) := same_new hp4
  generalize upd H3 p4 (.lst words) = H4 at *
  obtain ⟨j, r, e, hw⟩ := flag_at hf
  have s04 : Same H H4 := s3.trans s4
  refine ⟨tyL (s4 _ _ g3), p1, _, _, j, .bl true, rfl, rfl, .inl (.inl (s4 _ _ g3)), rfl, ?_, ?_, rfl, ?_, ?_⟩
  · rw [List.all_map]
    refine List.all_eq_true.mpr fun _ _ => rfl
  · rw [e, List.getElem?_map, List.getElem?_append_right (by rw [List.length_replicate]; omega), List.length_replicate, Nat.sub_self]
    rfl
  · intro m z lt ez
    rw [e, List.getElem?_map, List.getElem?_append_left (by rw [List.length_replicate]; exact lt), List.getElem?_replicate, if_pos lt] at ez
    cases ez
    rfl
  · refine ⟨_, _, .inl (.inl (.inl g4)), hw, ?_⟩
    obtain ⟨t1, t2, t3, t4⟩ := ht
    refine ⟨_, rfl, rfl, _, d, _, v, rfl, rfl, C.f f hf, C.v f hf, s04 _ _ hd, rfl, v, dd, rfl, t1.same s04, t2, t3, t4, by decide, fun p hp => ?_⟩
    exact q p _ (s04.trans (same_new hp)) (s04.free hp) upd_same
include F C in
theorem read__law_caught (h : sp__law_caught K vs H Q E) : t__law_caught K E { nx := fun _ H' => Q .non H', rt := Q } (start ["_law_way", "_law_yard", "_law_one", "_law_two", "e", "_law_kinds"] vs) H := by
  match vs, h with
  | [_, y, x, z], ⟨i, Rn, Rx, rfl, hi, out, fine, told⟩ =>
    unfold t__law_caught
    walk_at "s"
    simp only [tTry, tFnS, tCallS, wCl, undone, named, unnamed, WE]
    walk_at "1"
    simp only [tCallS]
    walk_at "1"
    by_cases e : i = 11
    · subst e
      rw [if_pos (by decide)]
      refine out _ _ (fun v H1 r => ⟨by decide, fun p hp => fine H1 r p _ (same_new hp) hp upd_same⟩) fun f v d H1 rx hd => ?_
      obtain ⟨hf, dd, td, q⟩ := told f v H1 rx
      exact ⟨true, exm_six C hf, fun _ a ha => caught_suite C hf hd td q, fun z => by cases z⟩
    · rw [if_neg (by omega)]
      refine ⟨i, rfl, by omega, out _ _ (fun v H1 r => ⟨by decide, fun p hp => fine H1 r p _ (same_new hp) hp upd_same⟩) fun f v d H1 rx hd => ?_⟩
      obtain ⟨hf, dd, td, q⟩ := told f v H1 rx
      exact ⟨true, exm_six C hf, fun _ a ha => caught_suite C hf hd td q, fun z => by cases z⟩
end
end U
namespace U
open PySem PySem.Spec PyProof.Rows L2

/-! ### how the doors end -/
/-- refused with this exception, nothing else changed -/
def RxS (H : Hp) (f : Str) (v : V) : Str → V → Hp → Prop := fun g w H1 => g = f ∧ (w = v ∧ Same H H1)
section
variable {K : PySem.W.Frag} (F : KF K) {H : Hp} {y x z : V} {i : Nat}
theorem rz_of {f : Str} {v : V} {E1 : XK} (h : ∀ g w d H1, RxS H f v g w H1 → H1 d = some (.xd [("value", w)]) → E1 (.ref (He.ga K g)) (some d) H1) : Rz K f "value" v H E1 := fun d H' s n => h f v d _ ⟨rfl, rfl, s.trans (same_new n)⟩ upd_same
theorem out_yard (h : ∃ a, Is K H y a ∧ a ≠ .yard) (hi : i ≤ 11) : Out K H y x z i (fun _ => False) (RxS H "InvalidYard" y) := by
  intro Q1 E1 _ he
  obtain ⟨a, h1, h2⟩ := h
  have bad : BadY K H y E1 := ⟨a, h1, h2, rz_of he⟩
  match i, hi with
  | 0, _ => exact .inl bad
  | 1, _ => exact .inl bad
  | 2, _ => exact .inl bad
  | 3, _ => exact .inl bad
  | 4, _ => exact .inl bad
  | 5, _ => exact bad.or
  | 6, _ => exact bad.or
  | 7, _ => exact bad.or
  | 8, _ => exact bad.or
  | 9, _ => exact bad.or
  | 10, _ => exact bad.or
  | 11, _ => exact bad.or
  | n + 12, hi => exact absurd hi (by omega)
/-- no arrangement of so many crates -/
def OddA (K : PySem.W.Frag) (H : Hp) (n : Nat) (x : V) : Prop := ∃ b, Is K H x b ∧ (Short x ∧ arrB n x = false)
theorem OddA.no {n : Nat} {E1 : XK} (h : OddA K H n x) (he : ∀ g w d H1, RxS H "InvalidArrangement" x g w H1 → H1 d = some (.xd [("value", w)]) → E1 (.ref (He.ga K g)) (some d) H1) : NoArr K H n x E1 := by
  obtain ⟨b, h1, h2, h3⟩ := h
  exact ⟨b, h1, h2, h3, rz_of he⟩
include F in
theorem out_word {p : Addr} {rows : List (List (Option Int))} (hy : Yd K H p rows) (h : OddA K H rows.length x) (h5 : 5 ≤ i) (hi : i ≤ 11) : Out K H (.ref p) x z i (fun _ => False) (RxS H "InvalidArrangement" x) := by
  intro Q1 E1 _ he
  have no := h.no he
  match i, h5, hi with
  | 0, h5, _ => omega
  | 1, h5, _ => omega
  | 2, h5, _ => omega
  | 3, h5, _ => omega
  | 4, h5, _ => omega
  | 5, _, _ => exact yardOr_of F hy no
  | 6, _, _ => exact yardOr_of F hy no
  | 7, _, _ => exact yardOr_of F hy (.inl no)
  | 8, _, _ => exact yardOr_of F hy (.inl no)
  | 9, _, _ => exact yardOr_of F hy (.inl no)
  | 10, _, _ => exact yardOr_of F hy (.inl no)
  | 11, _, _ => exact yardOr_of F hy (.inl no)
  | n + 12, _, hi => exact absurd hi (by omega)
include F in
theorem out_goal {p : Addr} {rows : List (List (Option Int))} {ds : List Nat} (hy : Yd K H p rows) (ha : Arr rows.length x ds) (h : OddA K H rows.length z) (h7 : 7 ≤ i) (hi : i ≤ 11) : Out K H (.ref p) x z i (fun _ => False) (RxS H "InvalidArrangement" z) := by
  intro Q1 E1 _ he
  have no := h.no he
  match i, h7, hi with
  | 0, h5, _ => omega
  | 1, h5, _ => omega
  | 2, h5, _ => omega
  | 3, h5, _ => omega
  | 4, h5, _ => omega
  | 5, h5, _ => omega
  | 6, h5, _ => omega
  | 7, _, _ => exact yardOr_of F hy (.inr ⟨ds, ha, no⟩)
  | 8, _, _ => exact yardOr_of F hy (.inr ⟨ds, ha, no⟩)
  | 9, _, _ => exact yardOr_of F hy (.inr ⟨ds, ha, no⟩)
  | 10, _, _ => exact yardOr_of F hy (.inr ⟨ds, ha, .inl no⟩)
  | 11, _, _ => exact yardOr_of F hy (.inr ⟨ds, ha, .inl no⟩)
  | n + 12, _, hi => exact absurd hi (by omega)
theorem out_way1 {p : Addr} {rows : List (List (Option Int))} (hy : YdK K H p rows) (h : ∃ a, Is K H x a ∧ isWy x = false) : Out K H (.ref p) x z 1 (fun _ => False) (RxS H "InvalidWay" x) := by
  intro Q1 E1 _ he
  obtain ⟨a, h1, h2⟩ := h
  exact .inr ⟨p, rows, rfl, hy, a, h1, h2, rz_of he⟩
theorem out_pap4 {p : Addr} {rows : List (List (Option Int))} (hy : YdK K H p rows) (h : NoPap K H rows.length x) : Out K H (.ref p) x z 4 (fun _ => False) (RxS H "InvalidPaper" x) := by
  intro Q1 E1 _ he
  exact .inr ⟨p, rows, rfl, .inl ⟨hy, h, rz_of he⟩⟩
/-- a way that is none, behind a paper -/
theorem out_way4 {p l : Addr} {rows : List (List (Option Int))} (hy : YdK K H p rows) (hl : LvT H l (ownL rows)) (h : ∀ H1, Mild K p H H1 → ∃ a, Is K H1 z a ∧ isWy z = false) : Out K H (.ref p) (.ref l) z 4 (fun _ => False) (fun g w H1 => g = "InvalidWay" ∧ (w = z ∧ ∃ H', Mild K p H H' ∧ (YdK K H' p rows ∧ Same H' H1))) := by
  intro Q1 E1 _ he
  refine .inr ⟨p, rows, rfl, .inr ⟨l, rfl, ⟨hy, hl⟩, fun H1 m1 hy1 => ?_⟩⟩
  obtain ⟨a, h1, h2⟩ := h H1 m1
  exact ⟨a, h1, h2, fun d H' s n => he _ _ d _ ⟨rfl, rfl, H1, m1, hy1, s.trans (same_new n)⟩ upd_same⟩
include F in
theorem out_pap11 {p : Addr} {rows : List (List (Option Int))} {ds es : List Nat} (hy : Yd K H p rows) (ha : Arr rows.length x ds) (hb : Arr rows.length z es) : Out K H (.ref p) x z 11 (fun _ => False) (RxS H "InvalidPaper" .non) := by
  intro Q1 E1 _ he
  exact yardOr_of F hy (.inr ⟨ds, ha, .inr ⟨es, hb, .inl rfl, rz_of he⟩⟩)
/-- what is fine -/
theorem out_fine {p : Addr} {rows : List (List (Option Int))} (hy : YdK K H p rows) (h : i = 0 ∨ i = 2 ∨ i = 3) : Out K H (.ref p) .non .non i (fun H1 => Mild K p H H1 ∧ YdK K H1 p rows) (fun _ _ _ => False) := by
  intro Q1 E1 hq _
  obtain ⟨_, _, _, gp, _⟩ := id hy.2.2
  have after : ∀ {H1 H' : Hp}, Mild K p H H1 → YdK K H1 p rows → Same H1 H' → Mild K p H H' ∧ YdK K H' p rows := fun m k s => by
    obtain ⟨_, _, _, g1, _⟩ := id k.2.2
    exact ⟨m.trans (Mild.of_same g1 s), k.same s⟩
  rcases h with rfl | rfl | rfl
  · exact .inr ⟨p, rows, rfl, hy, fun l H1 H' m k _ s _ => hq _ H' (after m k s)⟩
  · exact .inr ⟨p, rows, rfl, .inl ⟨hy, .inl rfl, fun H' s => hq _ H' ⟨Mild.of_same gp s, hy.same s⟩⟩⟩
  · exact .inr ⟨p, rows, rfl, hy, fun l H1 H' m k s _ => hq _ H' (after m k s)⟩
end
end U
namespace U
open PySem PySem.Spec PyProof.Rows L2

/-! ### one answer many times -/
def nestD (n : Nat) (zs : List Str) : PyData := .list (List.replicate n (.list (zs.map PyData.str)))
theorem nest_shaped {zs : List Str} (ok : ∀ z ∈ zs, PyData.strOk z = true) (n : Nat) : SeqAt.shaped (nestD n zs) = true := by
  have one : PyData.canLayAll0 (zs.map PyData.str) = true ∧ PyData.depthAll (zs.map PyData.str) = 0 := by
    induction zs with
    | nil => exact ⟨by simp [PyData.canLayAll0], by simp [PyData.depthAll]⟩
    | cons w r ih =>
      have i := ih fun x m => ok x (List.mem_cons_of_mem _ m)
      have o := ok w List.mem_cons_self
      simp [PyData.canLayAll0, PyData.depthAll, PyData.canLay0, PyData.depth, i, o]
  have all : PyData.canLayAll0 (List.replicate n (PyData.list (zs.map PyData.str))) = true ∧ PyData.depthAll (List.replicate n (PyData.list (zs.map PyData.str))) ≤ 1 := by
    induction n with
    | zero => exact ⟨by simp [PyData.canLayAll0], by simp [PyData.depthAll]⟩
    | succ n i => simp [List.replicate_succ, PyData.canLayAll0, PyData.canLay0, PyData.depthAll, PyData.depth, i, one]
  unfold SeqAt.shaped nestD
  rw [PyData.canLay0, all.1, PyData.depth]
  (exact decide_eq_true (by omega))
section
variable {K : PySem.W.Frag} (F : KF K) {H : Hp} {Q : VK} {E : XK}
theorem dp_nest {zs : List Str} : ∀ {ls : List Addr} {l : Addr}, SqL K H l (ls.map V.ref) → (∀ d ∈ ls, H d = some (.lst (zs.map V.str))) → Dp K H (.ref l) (nestD ls.length zs) := by
  intro ls l h each
  refine .lst h ?_
  clear h
  induction ls with
  | nil => exact .nil
  | cons d t ih => exact .cons (dp_strs (.inl (.inl (each d List.mem_cons_self)))) (ih fun x m => each x (List.mem_cons_of_mem _ m))
theorem ne_nest {zs : List Str} {l m : Addr} {ls ms : List Addr} (ok : ∀ z ∈ zs, PyData.strOk z = true) (h1 : H l = some (.lst (ls.map V.ref))) (h2 : H m = some (.lst (ms.map V.ref))) (e : ls.length = ms.length)
    (a1 : ∀ d ∈ ls, H d = some (.lst (zs.map V.str))) (a2 : ∀ d ∈ ms, H d = some (.lst (zs.map V.str))) (q : Q (.bl false) H) : uNe K (.ref l) (.ref m) H Q := by
  refine ⟨_, _, dp_nest (.inl (.inl h1)) a1, e ▸ dp_nest (.inl (.inl h2)) a2, nest_shaped ok _, nest_shaped ok _, ?_⟩
  rw [SeqAt.eqv_refl _ (SeqAt.canLay_of_shaped (nest_shaped ok _))]
  exact q
theorem two_ok {a b : Str} (ha : PyData.strOk a = true) (hb : PyData.strOk b = true) : ∀ z ∈ [a, b], PyData.strOk z = true := fun z m => by
  rcases List.mem_cons.mp m with rfl | m
  · exact ha
  · rw [List.mem_singleton.mp m]
    exact hb
theorem word_ok (f : Str) : PyData.strOk (wordOf f) = true := by
  unfold wordOf excs
  simp only [List.lookup]
  repeat' split
  all_goals decide +kernel
/-- what a piece of the law's texts gives, wherever it stands -/
def Ev (t : TE) (σ : L2.St) (v : V) : Prop := ∀ (H : Hp) (Q : VK), Q v H → t σ H Q
theorem ev_var {i : Nat} {σ : L2.St} {v : V} (h : σ[i]? = some (some v)) : Ev (tVar i) σ v := fun H Q q => ⟨v, h, q⟩
theorem ev_c {σ : L2.St} {v : V} : Ev (tC v) σ v := fun H Q q => q
theorem ev_call {σ : L2.St} {sp : Sp} {a b c d : TE} {v1 v2 v3 v4 : V} (h1 : Ev a σ v1) (h2 : Ev b σ v2) (h3 : Ev c σ v3) (h4 : Ev d σ v4) (q : sp [v1, v2, v3, v4] H Q E) : tFn sp E (tCons a (tCons b (tCons c (tCons d tNil)))) σ H Q :=
  h1 _ _ (h2 _ _ (h3 _ _ (h4 _ _ q)))
/-- what is told of a thing, in the end -/
structure Fit (K : PySem.W.Frag) (H : Hp) (v : V) (d : PyData) : Prop where
  t : Told K H v d
  f : fine d = true
theorem Fit.same {H' : Hp} {v : V} {d : PyData} (h : Fit K H v d) (e : Same H H') : Fit K H' v d := ⟨⟨h.t.1.same e, h.t.2⟩, h.f⟩
/-- a door that refuses -/
theorem refused {y x z v : V} {i : Nat} {f : Str} {d : PyData} (hf : f ∈ excN) (hi : i ≤ 11) (out : Out K H y x z i (fun _ => False) (RxS H f v)) (fit : Fit K H v d) (q : ∀ l H', Same H H' → H l = none → H' l = some (.lst [.str (wordOf f), .str d.shown]) → Q (.ref l) H') : sp__law_caught K [.int (i : Nat), y, x, z] H Q E := by
  refine ⟨i, _, _, rfl, hi, out, fun H1 r => r.elim, fun g w H1 rx => ?_⟩
  obtain ⟨rfl, rfl, s1⟩ := rx
  exact ⟨hf, d, (fit.same s1).t, fun l H' s2 nl hl => q l H' (s1.trans s2) (s1.free nl) hl⟩
/-- [caught(way, ..) for way in ..] for doors that all refuse -/
theorem refused_all {J : It} {G : Hp → Prop} {ks : List Nat} (P : Plain J (ks.map fun k => V.int (k : Nat)) G) {σ : L2.St} {tb tc td : TE} {y x z v : V} {f : Str} {d : PyData} {C : Addr} {Qd : Hp → Prop} (hC : H C = none) (few : ks.length ≤ 12) (hG : ∀ H', Same H H' → G H')
    (h2 : ∀ k, Ev tb (σ.set 9 (some (.int (k : Nat)))) y) (h3 : ∀ k, Ev tc (σ.set 9 (some (.int (k : Nat)))) x) (h4 : ∀ k, Ev td (σ.set 9 (some (.int (k : Nat)))) z) (l9 : 9 < σ.length)
    (hf : f ∈ excN) (hi : ∀ k ∈ ks, k ≤ 11) (out : ∀ k ∈ ks, ∀ H', Same H H' → Out K H' y x z k (fun _ => False) (RxS H' f v)) (fit : Fit K H v d)
    (q : ∀ H' (ls : List Addr), Same H H' → H' C = some (.lst (ls.map V.ref)) → ls.length = ks.length → (∀ l ∈ ls, H' l = some (.lst ([wordOf f, d.shown].map V.str))) → Qd H') :
    LcB J (gName 9) tYes (tFn (sp__law_caught K) E0 (tCons (tVar 9) (tCons tb (tCons tc (tCons td tNil))))) [9] σ H C Qd := by
  refine lc_fresh P (fun _ => [.str (wordOf f), .str d.shown]) hC (by rw [List.length_map]; omega) hG ?_ ?_
  · intro i x' H2 Q2 hx s2 go
    rw [List.getElem?_map] at hx
    obtain ⟨k, hk, rfl⟩ := Option.map_eq_some_iff.mp hx
    have mk := List.mem_of_getElem? hk
    refine ev_call (ev_var (List.getElem?_set_self l9)) (h2 k) (h3 k) (h4 k) ?_
    exact refused hf (hi k mk) (out k mk H2 s2) (fit.same s2) fun l H3 s3 nl hl => go l H3 nl s3 hl
  · intro H2 ls s2 hl gC at_ _ _ _
    refine q H2 ls s2 gC (by rw [hl, List.length_map]) fun l m => ?_
    obtain ⟨k, lt, rfl⟩ := List.mem_iff_getElem.mp m
    exact at_ k _ (List.getElem?_eq_getElem lt)
/-- .. != [[word, repr(v)]] * n -/
theorem ne_times {σ : L2.St} {tv : TE} {v : V} {w : Str} {d : PyData} {C : Addr} {ls : List Addr} {n : Nat} (hv : Ev tv σ v) (hw : PyData.strOk w = true) (fit : Fit K H v d) (gC : H C = some (.lst (ls.map V.ref))) (hl : ls.length = n) (few : n ≤ 12)
    (each : ∀ l ∈ ls, H l = some (.lst ([w, d.shown].map V.str))) (q : ∀ H', Same H H' → Q (.bl false) H') :
    tOp uMul (tLst (tCons (tLst (tCons (tC (.str w)) (tCons (tCB (uReprQ K) (tCons tv tNil)) tNil))) tNil)) (tC (.int (n : Nat))) σ H (fun y H1 => uNe K (.ref C) y H1 Q) := by
  refine (show tv σ H _ from hv _ _ ?_)
  refine ⟨v, d, rfl, fit.t.1, fit.t.2.1, fit.t.2.2.1, fit.t.2.2.2, (show 2 ≤ sizeLine by decide), fun t nt => ?_⟩
  have s1 : Same H (upd H t (.lst [.str w, .str d.shown])) := same_new nt
  have gt : upd H t (.lst [.str w, .str d.shown]) t = some (.lst ([w, d.shown].map V.str)) := upd_same
  generalize upd H t (.lst [.str w, .str d.shown]) = H1 at *
  refine ⟨(show 1 ≤ sizeLine by decide), fun m nm => ?_⟩
  have s2 : Same H1 (upd H1 m (.lst [.ref t])) := same_new nm
  have gm : upd H1 m (.lst [.ref t]) m = some (.lst [.ref t]) := upd_same
  generalize upd H1 m (.lst [.ref t]) = H2 at *
  refine ⟨m, n, [.ref t], rfl, rfl, gm, by omega, by omega, ?_, fun p np => ?_⟩
  · rw [List.length_singleton, Int.toNat_natCast]
    exact Nat.le_trans (show 1 * n ≤ 12 by omega) (by decide)
  have s3 : Same H2 (upd H2 p (.lst (List.replicate (Int.toNat (n : Nat)) [V.ref t]).flatten)) := same_new np
  have gp : upd H2 p (.lst (List.replicate (Int.toNat (n : Nat)) [V.ref t]).flatten) p = some (.lst ((List.replicate n t).map V.ref)) := by
    rw [upd_same, Int.toNat_natCast]
    congr 2
    rw [List.map_replicate]
    induction n with
    | zero => rfl
    | succ n ih => rw [List.replicate_succ, List.flatten_cons, List.replicate_succ]; exact congrArg _ (List.flatten_replicate_singleton)
  generalize upd H2 p (.lst (List.replicate (Int.toNat (n : Nat)) [V.ref t]).flatten) = H3 at *
  have s := (s1.trans s2).trans s3
  refine ne_nest (two_ok hw (ok_shown d fit.f)) (s _ _ gC) gp (by rw [hl, List.length_replicate]) (fun l m => s _ _ (each l m)) (fun l m => ?_) (q H3 s)
  rw [List.eq_of_mem_replicate m]
  exact (s2.trans s3) _ _ gt
end
end U
namespace U
open PySem PySem.Spec PyProof.Rows L2

def sp__law_very_right (K : PySem.W.Frag) : Sp := sp2 fun y x H Q _ => ∃ p rows ds, y = .ref p ∧ YdK K H p rows ∧ Arr rows.length x ds ∧ ∀ H', Same H H' → Q (.bl true) H'
def t__law_very_right (K : PySem.W.Frag) (E : XK) : TS := (tSeq (tFor (iRng1 (tCons (tC (.int 2)) tNil)) (gName 2) (tSeq (tAsg (tLst (tCons (tVar 2) tNil)) (gName 3)) (tSeq (tTry (fun cls d _ H => E cls d H) (fun W => (tSeq (tIfS (tTest (tOp (uEq K) (tVar 2) (tC (.int 0)))) (tDrop (tFnS (sp_told_cost K) W (tCons (tVar 0) (tCons (tVar 3) (tCons (tC (.str "ab")) tNil))))) (tDrop (tFnS (sp_shown_cost K) W (tCons (tVar 0) (tCons (tVar 1) (tCons (tVar 1) (tCons (tVar 3) tNil))))))) (tRet (tC (.bl false))))) [⟨(fun cls => PySem.W.exmOne K cls (.ref (He.ga K "InvalidPaper"))), some 4, fun a cls d => (tDrop (tBM K "list" rAppend (tXv K a cls d "value" (tVar 4)) (tCons (tC (.str "more")) tNil)))⟩]) (tIfS (tTest (tOp (uNe K) (tVar 3) (tLst (tCons (tVar 2) (tCons (tC (.str "more")) tNil))))) (tRet (tC (.bl false))) tNext)))) (tRet (tC (.bl true))))
section
variable {K : PySem.W.Frag} (F : KF K) (C : XF K "CratesError" excN) {vs : List V} {H : Hp} {Q : VK} {E : XK}
local macro_rules | `(tactic| walk_at "w") => `(tactic| try simp only [turnE, lcT, Snoc, tRet, tRetN, tAndV, tOrV, tNotV, tCB, tCons, tVar, tNil, tC, tOp, tSeq, tAsg, gName, gSub, tIfS, tDrop, tFn, tTup, tLst, tNext, tB, tTest, tNot, tAnd, tOr, tIf, tChain, tUn, rU, tFld, tPart, tNoPart, L2.tSl, tBM, tPar, tPar3, tTruth, tDNewK,
  L2.start, List.map_cons, List.map_nil, List.length_cons, List.length_nil, List.replicate_succ, List.replicate_zero, List.append_nil, List.nil_append, List.cons_append, List.singleton_append, Nat.sub_self, Nat.zero_add, Nat.reduceAdd, Nat.reduceSub,
  List.getElem?_cons_zero, List.getElem?_cons_succ, List.set_cons_zero, List.set_cons_succ, Option.some.injEq, exists_eq_left, exists_eq_left', V.int.injEq, V.bl.injEq, V.str.injEq, V.ref.injEq,
  uAdd_int, uAdd_str, uSub_int, uMul_int, uMul_str, uDiv_int, uMod_int, uPow_int, uLt_int, uLe_int, uGt_int, uGe_int, uIs_non, uNis_non, uIs_bl, uNis_bl, sp1, sp2, sp3, sp4, uEq_int, uEq_str, uNe_int, uNe_str, uSl_str, uLen_str, decide_eq_true_eq])
local macro_rules | `(tactic| walk_at "1") => `(tactic| try simp only [turnE, lcT, Snoc, tRet, tRetN, tAndV, tOrV, tNotV, tCB, tCons, tVar, tNil, tC, tOp, tAsg, gName, gSub, tIfS, tDrop, tFn, tTup, tLst, tNext, tB, tTest, tNot, tAnd, tOr, tIf, tChain, tUn, rU, tFld, tPart, tNoPart, L2.tSl, tBM, tPar, tPar3, tTruth, tDNewK,
  L2.start, List.map_cons, List.map_nil, List.length_cons, List.length_nil, List.replicate_succ, List.replicate_zero, List.append_nil, List.nil_append, List.cons_append, List.singleton_append, Nat.sub_self, Nat.zero_add, Nat.reduceAdd, Nat.reduceSub,
  List.getElem?_cons_zero, List.getElem?_cons_succ, List.set_cons_zero, List.set_cons_succ, Option.some.injEq, exists_eq_left, exists_eq_left', V.int.injEq, V.bl.injEq, V.str.injEq, V.ref.injEq,
  uAdd_int, uAdd_str, uSub_int, uMul_int, uMul_str, uDiv_int, uMod_int, uPow_int, uLt_int, uLe_int, uGt_int, uGe_int, uIs_non, uNis_non, uIs_bl, uNis_bl, sp1, sp2, sp3, sp4, uEq_int, uEq_str, uNe_int, uNe_str, uSl_str, uLen_str, decide_eq_true_eq])
local macro_rules | `(tactic| walk_at "s") => `(tactic| ((try dsimp only [turnE]); with_reducible refine seq_ ?_))

theorem fine_one {p a : Addr} {rows : List (List (Option Int))} {k : Nat} (hy : YdK K H p rows) (yr : YdR K H p a) (hk : k = 0 ∨ k = 2 ∨ k = 3) (q : ∀ l H', Same H H' → H l = none → H' l = some (.lst [.str "none"]) → Q (.ref l) H') : sp__law_caught K [.int (k : Nat), .ref p, .non, .non] H Q E := by
  refine ⟨k, _, _, rfl, by omega, out_fine hy hk, fun H1 r l H' s nl hl => ?_, fun _ _ _ z => z.elim⟩
  have s1 := r.1.sm a yr
  exact q l H' (s1.trans s) (s1.free nl) hl
/-- [caught(way, ..) for way in ..] for doors that are all fine -/
theorem fine_all {J : It} {G : Hp → Prop} {ks : List Nat} (P : Plain J (ks.map fun k => V.int (k : Nat)) G) {σ : L2.St} {tb tc td : TE} {p a : Addr} {rows : List (List (Option Int))} {C : Addr} {Qd : Hp → Prop} (hC : H C = none) (few : ks.length ≤ 12) (hG : ∀ H', Same H H' → G H')
    (h2 : ∀ k, Ev tb (σ.set 9 (some (.int (k : Nat)))) (.ref p)) (h3 : ∀ k, Ev tc (σ.set 9 (some (.int (k : Nat)))) .non) (h4 : ∀ k, Ev td (σ.set 9 (some (.int (k : Nat)))) .non) (l9 : 9 < σ.length)
    (hi : ∀ k ∈ ks, k = 0 ∨ k = 2 ∨ k = 3) (hy : YdK K H p rows) (yr : YdR K H p a)
    (q : ∀ H' (ls : List Addr), Same H H' → H' C = some (.lst (ls.map V.ref)) → ls.length = ks.length → (∀ l ∈ ls, H' l = some (.lst ([("none" : Str)].map V.str))) → Qd H') :
    LcB J (gName 9) tYes (tFn (sp__law_caught K) E0 (tCons (tVar 9) (tCons tb (tCons tc (tCons td tNil))))) [9] σ H C Qd := by
  refine lc_fresh P (fun _ => [.str "none"]) hC (by rw [List.length_map]; omega) hG ?_ ?_
  · intro i x' H2 Q2 hx s2 go
    rw [List.getElem?_map] at hx
    obtain ⟨k, hk, rfl⟩ := Option.map_eq_some_iff.mp hx
    have mk := List.mem_of_getElem? hk
    refine ev_call (ev_var (List.getElem?_set_self l9)) (h2 k) (h3 k) (h4 k) ?_
    exact fine_one (hy.same s2) (yr.same s2) (hi k mk) fun l H3 s3 nl hl => go l H3 nl s3 hl
  · intro H2 ls s2 hl gC at_ _ _ _
    refine q H2 ls s2 gC (by rw [hl, List.length_map]) fun l m => ?_
    obtain ⟨k, lt, rfl⟩ := List.mem_iff_getElem.mp m
    exact at_ k _ (List.getElem?_eq_getElem lt)
/-- .. != [[word]] * n -/
theorem ne_times1 {σ : L2.St} {w : Str} {C : Addr} {ls : List Addr} {n : Nat} (hw : PyData.strOk w = true) (gC : H C = some (.lst (ls.map V.ref))) (hl : ls.length = n) (few : n ≤ 12)
    (each : ∀ l ∈ ls, H l = some (.lst ([w].map V.str))) (q : ∀ H', Same H H' → Q (.bl false) H') :
    tOp uMul (tLst (tCons (tLst (tCons (tC (.str w)) tNil)) tNil)) (tC (.int (n : Nat))) σ H (fun y H1 => uNe K (.ref C) y H1 Q) := by
  refine ⟨(show 1 ≤ sizeLine by decide), fun t nt => ?_⟩
  have s1 : Same H (upd H t (.lst [.str w])) := same_new nt
  have gt : upd H t (.lst [.str w]) t = some (.lst ([w].map V.str)) := upd_same
  generalize upd H t (.lst [.str w]) = H1 at *
  refine ⟨(show 1 ≤ sizeLine by decide), fun m nm => ?_⟩
  have s2 : Same H1 (upd H1 m (.lst [.ref t])) := same_new nm
  have gm : upd H1 m (.lst [.ref t]) m = some (.lst [.ref t]) := upd_same
  generalize upd H1 m (.lst [.ref t]) = H2 at *
  refine ⟨m, n, [.ref t], rfl, rfl, gm, by omega, by omega, ?_, fun p np => ?_⟩
  · rw [List.length_singleton, Int.toNat_natCast]
    exact Nat.le_trans (show 1 * n ≤ 12 by omega) (by decide)
  have s3 : Same H2 (upd H2 p (.lst (List.replicate (Int.toNat (n : Nat)) [V.ref t]).flatten)) := same_new np
  have gp : upd H2 p (.lst (List.replicate (Int.toNat (n : Nat)) [V.ref t]).flatten) p = some (.lst ((List.replicate n t).map V.ref)) := by
    rw [upd_same, Int.toNat_natCast, List.flatten_replicate_singleton, List.map_replicate]
  generalize upd H2 p (.lst (List.replicate (Int.toNat (n : Nat)) [V.ref t]).flatten) = H3 at *
  have s := (s1.trans s2).trans s3
  refine ne_nest (fun z m => by rw [List.mem_singleton.mp m]; exact hw) (s _ _ gC) gp (by rw [hl, List.length_replicate]) (fun l m => s _ _ (each l m)) (fun l m => ?_) (q H3 s)
  rw [List.eq_of_mem_replicate m]
  exact (s2.trans s3) _ _ gt
theorem more_shaped (i : Int) : SeqAt.shaped (.list [.int i, .str "more"]) = true := by
  have e : PyData.strOk "more" = true := by decide +kernel
  simp [SeqAt.shaped, PyData.canLay0, PyData.canLayAll0, PyData.depth, PyData.depthAll, e]
theorem ne_more {l m : Addr} {i : Int} (h1 : H l = some (.lst [.int i, .str "more"])) (h2 : H m = some (.lst [.int i, .str "more"])) (q : Q (.bl false) H) : uNe K (.ref l) (.ref m) H Q := by
  refine ⟨_, _, .lst (.inl (.inl h1)) (.cons (.int i) (.cons (.str _) .nil)), .lst (.inl (.inl h2)) (.cons (.int i) (.cons (.str _) .nil)), more_shaped i, more_shaped i, ?_⟩
  rw [SeqAt.eqv_refl _ (SeqAt.canLay_of_shaped (more_shaped i))]
  exact q
include F C in
theorem read__law_very_right (h : sp__law_very_right K vs H Q E) : t__law_very_right K E { nx := fun _ H' => Q .non H', rt := Q } (start ["_law_yard", "_law_word_here", "_law_way", "_law_bad", "e"] vs) H := by
  match vs, h with
  | [_, x], ⟨p, rows, ds, rfl, hy, ha, q⟩ =>
    unfold t__law_very_right
    walk_at "s"
    refine for_rng1 (n := 2) (fun R r => r) (by decide) (fun i σ H' => Same H H' ∧ ∃ x2 x3 x4, σ = [some (.ref p), some x, x2, x3, x4]) ⟨Same.refl H, _, _, _, rfl⟩ ?_ ?_
    · rintro i σ H1 hi ⟨s1, x2, x3, x4, rfl⟩
      simp only [gName, List.set_cons_zero, List.set_cons_succ]
      walk_at "s"
      walk_at "1"
      refine ⟨by decide, fun l nl => ?_⟩
      have s2 : Same H1 (upd H1 l (.lst [.int (i : Nat)])) := same_new nl
      have gl : upd H1 l (.lst [.int (i : Nat)]) l = some (.lst [.int (i : Nat)]) := upd_same
      generalize upd H1 l (.lst [.int (i : Nat)]) = H2 at *
      have hy2 := (hy.same s1).same s2
      have r1 : 1 ≤ rows.length := by
        obtain ⟨⟨_, _, _, _, _, _, _, y5, _⟩, _⟩ := hy
        exact y5
      walk_at "s"
      simp only [tTry, wCl, undone, named, unnamed, WE]
      walk_at "s"
      walk_at "1"
      match i, hi, gl with
      | 0, _, gl =>
        rw [if_pos (by decide)]
        simp only [tFnS, tCallS]
        walk_at "1"
        refine .inr ⟨p, rows, rfl, .inl ⟨hy2, .inr ⟨l, _, rfl, .inl (.inl gl), by show 1 ≠ rows.length + 1; omega⟩, fun d H3 s3 n3 => ?_⟩⟩
        refine ⟨true, (is_exc C (f := "InvalidPaper") (c := "InvalidPaper") (by decide) (by decide)).2, fun _ a hna => ?_, fun z => nomatch z⟩
        have sx : Same H2 (upd H3 d (.xd [("value", .ref l)])) := s3.trans (same_new n3)
        have gx : upd H3 d (.xd [("value", .ref l)]) d = some (.xd [("value", .ref l)]) := upd_same
        generalize upd H3 d (.xd [("value", .ref l)]) = H4 at *
        walk_at "1"
        refine ⟨_, rfl, rfl, _, d, _, .ref l, rfl, rfl, C.f _ (by decide), C.v _ (by decide), gx, rfl, tyL (sx _ _ gl), app_of (sx _ _ gl) (by decide) ?_⟩
        have s5 : Same H (upd H4 l (.lst ([.int (0 : Nat)] ++ [.str "more"]))) := (Off.trans (Same.off ((s1.trans s2).trans sx)) off_upd).same (s1.free nl)
        have g5 : upd H4 l (.lst ([.int (0 : Nat)] ++ [.str "more"])) l = some (.lst [.int (0 : Nat), .str "more"]) := upd_same
        refine ⟨by decide, fun m nm => ne_more (same_new nm _ _ g5) upd_same ⟨_, rfl, ?_⟩⟩
        rw [if_neg (by decide)]
        exact ⟨s5.trans (same_new nm), _, _, _, rfl⟩
      | 1, _, gl =>
        rw [if_neg (by decide)]
        simp only [tFnS, tCallS]
        walk_at "1"
        refine yardOr_of F hy2.1 (.inr ⟨ds, ha, .inr ⟨ds, ha, .inr ⟨l, _, rfl, .inl (.inl gl)⟩, fun d H3 s3 n3 => ?_⟩⟩)
        refine ⟨true, (is_exc C (f := "InvalidPaper") (c := "InvalidPaper") (by decide) (by decide)).2, fun _ a hna => ?_, fun z => nomatch z⟩
        have sx : Same H2 (upd H3 d (.xd [("value", .ref l)])) := s3.trans (same_new n3)
        have gx : upd H3 d (.xd [("value", .ref l)]) d = some (.xd [("value", .ref l)]) := upd_same
        generalize upd H3 d (.xd [("value", .ref l)]) = H4 at *
        walk_at "1"
        refine ⟨_, rfl, rfl, _, d, _, .ref l, rfl, rfl, C.f _ (by decide), C.v _ (by decide), gx, rfl, tyL (sx _ _ gl), app_of (sx _ _ gl) (by decide) ?_⟩
        have s5 : Same H (upd H4 l (.lst ([.int (1 : Nat)] ++ [.str "more"]))) := (Off.trans (Same.off ((s1.trans s2).trans sx)) off_upd).same (s1.free nl)
        have g5 : upd H4 l (.lst ([.int (1 : Nat)] ++ [.str "more"])) l = some (.lst [.int (1 : Nat), .str "more"]) := upd_same
        refine ⟨by decide, fun m nm => ne_more (same_new nm _ _ g5) upd_same ⟨_, rfl, ?_⟩⟩
        rw [if_neg (by decide)]
        exact ⟨s5.trans (same_new nm), _, _, _, rfl⟩
      | n + 2, hi, _ => exact absurd hi (by omega)
    · rintro σ H1 ⟨s1, x2, x3, x4, rfl⟩
      walk_at "1"
      exact q H1 s1
end
end U
namespace U
open PySem PySem.Spec PyProof.Rows L2

section
variable {K : PySem.W.Frag} (F : KF K) {H : Hp} {b p q : Addr} {o : HO}
/-! ### odd things -/
def Oddy (K : PySem.W.Frag) (H : Hp) (x : V × PyData) : Prop := Fit K H x.1 x.2 ∧ ∃ a, Is K H x.1 a ∧ a ≠ .yard
/-- .. whatever the bag does -/
def Flb (b : Addr) (H H' : Hp) : Prop := ∀ a o, a ≠ b → (∀ C dx fs, o ≠ .ins C dx fs) → H a = some o → H' a = some o
theorem Flb.of {H' : Hp} (e : Off b H H') : Flb b H H' := fun a o n _ z => e a o n z
theorem Flb.trans {H' H2 : Hp} (e : Flb b H H') (f : Flb b H' H2) : Flb b H H2 := fun a o n m z => f a o n m (e a o n m z)
theorem PI.flb {H' : Hp} {L : Addr} {as : List Addr} {rows : List (List (Option Int))} (h : PI H L b as rows) (o : Flb b H H') : PI H' L b as rows := by
  obtain ⟨h1, h2, h3, h4, h5⟩ := h
  exact ⟨o _ _ h2 (fun _ _ _ z => nomatch z) h1, h2, h3, h4, fun j a r z1 z2 => ⟨o _ _ (h5 j a r z1 z2).2.2 (fun _ _ _ z => nomatch z) (h5 j a r z1 z2).1, (h5 j a r z1 z2).2⟩⟩
def Firm (K : PySem.W.Frag) (b : Addr) (H : Hp) (x : V × PyData) : Prop := ∀ H', Flb b H H' → Oddy K H' x
theorem Firm.off {H' : Hp} {x : V × PyData} (h : Firm K b H x) (e : Off b H H') : Firm K b H' x := fun H2 e2 => h H2 ((Flb.of e).trans e2)
theorem Firm.same {H' : Hp} {x : V × PyData} (h : Firm K b H x) (e : Same H H') : Oddy K H' x := h H' (Flb.of (Same.off e))
theorem fit_of {v : V} {d : PyData} {B D : Nat} (q : Dq K H v d) (h : Slim B D d) (hB : B ≤ 100000) (hD : D ≤ 60) : Fit K H v d := ⟨⟨q, h.1, Nat.le_trans h.2.1 hD, Nat.le_trans h.2.2.1 (Nat.le_trans hB (by decide))⟩, h.2.2.2⟩
theorem sl_e : Slim 40 1 (.list []) := ⟨by decide +kernel, by decide +kernel, by decide +kernel, by decide +kernel⟩
theorem sl_d : Slim 40 1 (.dict []) := ⟨by decide +kernel, by decide +kernel, by decide +kernel, by decide +kernel⟩
theorem sl_ab : Slim 40 1 (.list [.str "ab"]) := ⟨by decide +kernel, by decide +kernel, by decide +kernel, by decide +kernel⟩
theorem good_n : Oddy K H (.non, .none) := ⟨fit_of (B := 40) (D := 1) .qnon ⟨by decide +kernel, by decide +kernel, by decide +kernel, by decide +kernel⟩ (by decide) (by decide), _, is_non, by decide⟩
theorem good_5 : Oddy K H (.int 5, .int 5) := ⟨fit_of (B := 40) (D := 1) (.qint 5) ⟨by decide +kernel, by decide +kernel, by decide +kernel, by decide +kernel⟩ (by decide) (by decide), _, is_int 5, by decide⟩
theorem good_t : Oddy K H (.bl true, .bool true) := ⟨fit_of (B := 40) (D := 1) (.qbl true) ⟨by decide +kernel, by decide +kernel, by decide +kernel, by decide +kernel⟩ (by decide) (by decide), _, is_bl true, by decide⟩
theorem slim_s {z : Str} (ok : ∀ c ∈ z.cps.toList, c < 1000) (len : z.length ≤ 6) : Slim 62 1 (.str z) := by
  refine ⟨by simp [PyData.showable], by simp [PyData.depth], ?_, ?_⟩
  · rw [PyData.shown_str]
    have := StrLaws.reprText_len z fun c m => Nat.lt_trans (ok c m) (by decide)
    omega
  · rw [fine]
    exact repr_ok fun c m => Nat.lt_trans (ok c m) (by decide)
theorem good_s {z : Str} (ok : ∀ c ∈ z.cps.toList, c < 1000) (len : z.length ≤ 6) : Oddy K H (.str z, .str z) := ⟨fit_of (.qstr z) (slim_s ok len) (by decide) (by decide), _, is_str z, by decide⟩
theorem good_e (h : H p = some (.lst [])) : Oddy K H (.ref p, .list []) := ⟨fit_of (B := 40) (D := 1) (.qlst (.inl (.inl h)) .qnil) sl_e (by decide) (by decide), _, is_lst h, by decide⟩
theorem good_d (h : H p = some (.dK [])) : Oddy K H (.ref p, .dict []) := ⟨fit_of (B := 40) (D := 1) (.qdct h rfl .qnil) sl_d (by decide) (by decide), _, is_dct h, by decide⟩
theorem good_ab (h : H p = some (.lst [.str "ab"])) : Oddy K H (.ref p, .list [.str "ab"]) := ⟨fit_of (B := 40) (D := 1) (.qlst (.inl (.inl h)) (.qcons (.qstr "ab") .qnil)) sl_ab (by decide) (by decide), _, is_lst h, by decide⟩
/-- the letters of a word, in a list or in a tuple -/
def lettersD (ds : List Nat) : List PyData := ds.map fun d => .str (pl d)
theorem slim_letters {ds : List Nat} (h3 : D3 ds) : ∀ d ∈ lettersD ds, Slim 62 1 d := fun d m => by
  obtain ⟨x, mx, rfl⟩ := List.mem_map.mp m
  have := h3 x mx
  exact slim_s (fun c mc => by simp [pl] at mc; omega) (by show 1 ≤ 6; decide)
theorem dq_letters {ds : List Nat} : DqAll K H (ds.map fun d => V.str (pl d)) (lettersD ds) := dq_all fun d _ => .qstr (pl d)
theorem good_l {ds : List Nat} (h3 : D3 ds) (l5 : ds.length ≤ 5) (h : H p = some (.lst (ds.map fun d => V.str (pl d)))) : Oddy K H (.ref p, .list (lettersD ds)) :=
  ⟨fit_of (.qlst (.inl (.inl h)) dq_letters) (slim_list (n := 5) (slim_letters h3) (by simpa [lettersD] using l5)) (by decide) (by decide), _, is_lst h, by decide⟩
def slimB (B D : Nat) (d : PyData) : Bool := d.showable && decide (d.depth ≤ D) && decide (d.shown.length ≤ B) && fine d
theorem slimB_ok {B D : Nat} {d : PyData} (h : slimB B D d = true) : Slim B D d := by
  unfold slimB at h
  simp only [Bool.and_eq_true, decide_eq_true_eq, and_assoc] at h
  exact h
theorem tuples_slim : ((List.range 6).all fun n => (allW n).all fun w => slimB 100 3 (.tuple (lettersD w))) = true := by decide +kernel
theorem good_tu {ds : List Nat} (h3 : D3 ds) (l5 : ds.length ≤ 5) (h : H p = some (.tup (ds.map fun d => V.str (pl d)))) : Oddy K H (.ref p, .tuple (lettersD ds)) := by
  have := List.all_eq_true.mp (List.all_eq_true.mp tuples_slim ds.length (List.mem_range.mpr (by omega))) ds (mem_allW rfl h3)
  exact ⟨fit_of (.qtup (.inl (.inl h)) dq_letters) (slimB_ok this) (by decide) (by decide), _, is_sqT (.inl (.inl h)), by decide⟩
/-- the rows themselves -/
theorem good_rows {L : Addr} {as : List Addr} {rows : List (List (Option Int))} (h : PI H L b as rows) (l5 : rows.length ≤ 5) : Oddy K H (.ref L, .list (rows.map fun r => .list (r.map fun o => (pE o).2))) := by
  obtain ⟨h1, h2, h3, h4, h5⟩ := h
  have item : ∀ (j : Nat) (a : Addr) (r : List (Option Int)), as[j]? = some a → rows[j]? = some r → Dq K H (.ref a) (.list (r.map fun o => (pE o).2)) ∧ Slim 400 3 (.list (r.map fun o => (pE o).2)) := fun j a r e1 e2 => by
    have mr := h4 r (List.mem_of_getElem? e2)
    have ga := (h5 j a r e1 e2).1
    have := row_item (K := K) (H := H) (a := a) (es := r.map pE) (.inl (.inl (by rw [ga, List.map_map]; congr 2; exact List.map_congr_left fun o _ => (pE_v o).symm))) (fun e m => by
      obtain ⟨o, mo, rfl⟩ := List.mem_map.mp m
      exact atom_p (List.all_eq_true.mp mr.2 o mo)) (by rw [List.length_map, mr.1]; decide)
    have e : (r.map pE).map (·.2) = r.map fun o => (pE o).2 := by rw [List.map_map]; rfl
    rw [e] at this
    exact ⟨this.2.1, this.2.2⟩
  refine ⟨fit_of (.qlst (.inl (.inl h1)) ?_) (slim_list (B := 400) (D := 3) (n := 5) (fun d m => ?_) (by rw [List.length_map]; exact l5)) (by decide) (by decide), _, is_lst h1, by decide⟩
  · clear h1
    induction as generalizing rows with
    | nil =>
      cases rows with
      | nil => exact .qnil
      | cons r t => cases h3
    | cons a t ih =>
      cases rows with
      | nil => cases h3
      | cons r u =>
        refine .qcons (item 0 a r rfl rfl).1 (ih (by simp at l5; omega) (Nat.succ.inj h3) (fun x m => h4 x (List.mem_cons_of_mem _ m)) (fun j x y e1 e2 => h5 (j + 1) x y e1 e2) fun j x y e1 e2 => item (j + 1) x y e1 e2)
  · obtain ⟨r, mr, rfl⟩ := List.mem_map.mp m
    obtain ⟨j, lt, rfl⟩ := List.mem_iff_getElem.mp mr
    have la : j < as.length := by omega
    exact (item j as[j] rows[j] (List.getElem?_eq_getElem la) (List.getElem?_eq_getElem lt)).2
theorem odd_yard {L a1 a2 : Addr} {as : List Addr} {rows : List (List (Option Int))} {e : Int} (hp : PI H L b as rows) (l5 : rows.length ≤ 5) (g1 : H a1 = some (.lst [])) (n1 : a1 ≠ b) (g2 : H a2 = some (.dK [])) (n2 : a2 ≠ b) (h0 : 0 ≤ e) (h7 : e < 7) :
    ∃ w wd, atI [V.non, .int 5, .str "abc", .ref a1, .ref a2, .bl true, .ref L] e = some w ∧ Firm K b H (w, wd) := by
  obtain rfl | rfl | rfl | rfl | rfl | rfl | rfl : e = 0 ∨ e = 1 ∨ e = 2 ∨ e = 3 ∨ e = 4 ∨ e = 5 ∨ e = 6 := by omega
  · exact ⟨_, _, rfl, fun H' _ => good_n⟩
  · exact ⟨_, _, rfl, fun H' _ => good_5⟩
  · exact ⟨_, _, rfl, fun H' _ => good_s (by decide +kernel) (by decide +kernel)⟩
  · exact ⟨_, _, rfl, fun H' o => good_e (o _ _ n1 (fun _ _ _ z => nomatch z) g1)⟩
  · exact ⟨_, _, rfl, fun H' o => good_d (o _ _ n2 (fun _ _ _ z => nomatch z) g2)⟩
  · exact ⟨_, _, rfl, fun H' _ => good_t⟩
  · exact ⟨_, _, rfl, fun H' o => good_rows (hp.flb o) l5⟩
theorem odd_key {a1 : Addr} {e : Int} (g1 : H a1 = some (.lst [.str "ab"])) (n1 : a1 ≠ b) (h0 : 0 ≤ e) (h8 : e < 8) :
    ∃ w wd, atI [V.non, .str "", .str "aa", .str "abc", .int 5, .str "AB", .ref a1, .str "ba "] e = some w ∧ Firm K b H (w, wd) ∧ isWy w = false := by
  obtain rfl | rfl | rfl | rfl | rfl | rfl | rfl | rfl : e = 0 ∨ e = 1 ∨ e = 2 ∨ e = 3 ∨ e = 4 ∨ e = 5 ∨ e = 6 ∨ e = 7 := by omega
  · exact ⟨_, _, rfl, fun H' _ => good_n, rfl⟩
  · exact ⟨_, _, rfl, fun H' _ => good_s (by decide +kernel) (by decide +kernel), by decide +kernel⟩
  · exact ⟨_, _, rfl, fun H' _ => good_s (by decide +kernel) (by decide +kernel), by decide +kernel⟩
  · exact ⟨_, _, rfl, fun H' _ => good_s (by decide +kernel) (by decide +kernel), by decide +kernel⟩
  · exact ⟨_, _, rfl, fun H' _ => good_5, rfl⟩
  · exact ⟨_, _, rfl, fun H' _ => good_s (by decide +kernel) (by decide +kernel), by decide +kernel⟩
  · exact ⟨_, _, rfl, fun H' o => good_ab (o _ _ n1 (fun _ _ _ z => nomatch z) g1), rfl⟩
  · exact ⟨_, _, rfl, fun H' _ => good_s (by decide +kernel) (by decide +kernel), by decide +kernel⟩
/-- a word with something amiss -/
theorem arrB_len {n : Nat} {z : Str} (h : z.length ≠ n) : arrB n (.str z) = false := by
  show (decide (z.cps.size = n) && _) = false
  rw [decide_eq_false (show ¬ z.cps.size = n from h), Bool.false_and]
theorem arrB_sign {n c : Nat} {z : Str} (m : c ∈ z.cps.toList) (hc : isPl (.str ⟨#[c]⟩) = false) : arrB n (.str z) = false := by
  have : (strL z).all isPl = false := List.all_eq_false.mpr ⟨.str ⟨#[c]⟩, List.mem_map.mpr ⟨c, m, rfl⟩, by rw [hc]; decide⟩
  show (_ && (strL z).all isPl) = false
  rw [this, Bool.and_false]
def menuL (ds : List Nat) (a1 a2 : Addr) : List V := [.non, .str "", .str (wd ds ++ "a"), .str (wd (ds.drop 1)), .str (wd (ds.take (ds.length - 1)) ++ "d"), .str (wd (ds.take (ds.length - 1)) ++ "A"), .ref a1, .int 5, .ref a2, .str (" " ++ wd ds)]
theorem wd_sign {ds : List Nat} (h3 : D3 ds) : ∀ c ∈ (wd ds).cps.toList, c < 1000 := fun c m => by
  simp [wd] at m
  obtain ⟨d, md, rfl⟩ := m
  have := h3 d md
  omega
theorem cat_signs {x y : Str} {c : Nat} : c ∈ (x ++ y).cps.toList ↔ c ∈ x.cps.toList ∨ c ∈ y.cps.toList := by
  show c ∈ (x.cps ++ y.cps).toList ↔ _
  simp
theorem cat_len (x y : Str) : (x ++ y).length = x.length + y.length := by
  show (x.cps ++ y.cps).size = _
  simp
  rfl
theorem odd_word {ds : List Nat} {a1 a2 : Addr} {e : Int} (h3 : D3 ds) (l1 : 1 ≤ ds.length) (l5 : ds.length ≤ 5) (g1 : H a1 = some (.lst (ds.map fun d => V.str (pl d)))) (n1 : a1 ≠ b) (g2 : H a2 = some (.tup (ds.map fun d => V.str (pl d)))) (n2 : a2 ≠ b) (h0 : 0 ≤ e) (h10 : e < 10) :
    ∃ w wd, atI (menuL ds a1 a2) e = some w ∧ Firm K b H (w, wd) ∧ (Short w ∧ arrB ds.length w = false) := by
  have sh : ∀ {z : Str}, z.length ≤ 6 → Short (.str z) := fun h z' ez => by
    injection ez with ez
    rw [← ez]
    exact Nat.le_trans h (by decide)
  have shn : ∀ {v : V}, (∀ z, v ≠ .str z) → Short v := fun h z ez => absurd ez (h z)
  have td : D3 (ds.take (ds.length - 1)) := fun x m => h3 x (List.mem_of_mem_take m)
  have dd : D3 (ds.drop 1) := fun x m => h3 x (List.mem_of_mem_drop m)
  have la : (wd ds ++ "a").length = ds.length + 1 := by rw [cat_len, wd_length]; rfl
  have ls : ((" " : Str) ++ wd ds).length = ds.length + 1 := by rw [cat_len, wd_length, Nat.add_comm]; rfl
  have ld : ∀ s : Str, s.length = 1 → (wd (ds.take (ds.length - 1)) ++ s).length ≤ 6 := fun s hs => by rw [cat_len, wd_length, hs, List.length_take]; omega
  obtain rfl | rfl | rfl | rfl | rfl | rfl | rfl | rfl | rfl | rfl : e = 0 ∨ e = 1 ∨ e = 2 ∨ e = 3 ∨ e = 4 ∨ e = 5 ∨ e = 6 ∨ e = 7 ∨ e = 8 ∨ e = 9 := by omega
  · exact ⟨_, _, rfl, fun H' _ => good_n, shn (fun _ z => nomatch z), rfl⟩
  · exact ⟨_, _, rfl, fun H' _ => good_s (by decide +kernel) (by decide +kernel), sh (by decide +kernel), arrB_len (by show 0 ≠ _; omega)⟩
  · exact ⟨_, _, rfl, fun H' _ => good_s (fun c m => (cat_signs.mp m).elim (wd_sign h3 c) fun m => (by decide +kernel : ∀ c ∈ ("a" : Str).cps.toList, c < 1000) c m) (by omega), sh (by omega), arrB_len (by omega)⟩
  · exact ⟨_, _, rfl, fun H' _ => good_s (wd_sign dd) (by rw [wd_length, List.length_drop]; omega), sh (by rw [wd_length, List.length_drop]; omega), arrB_len (by rw [wd_length, List.length_drop]; omega)⟩
  · exact ⟨_, _, rfl, fun H' _ => good_s (fun c m => (cat_signs.mp m).elim (wd_sign td c) fun m => (by decide +kernel : ∀ c ∈ ("d" : Str).cps.toList, c < 1000) c m) (ld _ (by decide +kernel)), sh (ld _ (by decide +kernel)), arrB_sign (c := 100) (cat_signs.mpr (.inr (by decide +kernel))) (by decide +kernel)⟩
  · exact ⟨_, _, rfl, fun H' _ => good_s (fun c m => (cat_signs.mp m).elim (wd_sign td c) fun m => (by decide +kernel : ∀ c ∈ ("A" : Str).cps.toList, c < 1000) c m) (ld _ (by decide +kernel)), sh (ld _ (by decide +kernel)), arrB_sign (c := 65) (cat_signs.mpr (.inr (by decide +kernel))) (by decide +kernel)⟩
  · exact ⟨_, _, rfl, fun H' o => good_l h3 l5 (o _ _ n1 (fun _ _ _ z => nomatch z) g1), shn (fun _ z => nomatch z), rfl⟩
  · exact ⟨_, _, rfl, fun H' _ => good_5, shn (fun _ z => nomatch z), rfl⟩
  · exact ⟨_, _, rfl, fun H' o => good_tu h3 l5 (o _ _ n2 (fun _ _ _ z => nomatch z) g2), shn (fun _ z => nomatch z), rfl⟩
  · exact ⟨_, _, rfl, fun H' _ => good_s (fun c m => (cat_signs.mp m).elim (fun m => (by decide +kernel : ∀ c ∈ (" " : Str).cps.toList, c < 1000) c m) (wd_sign h3 c)) (by omega), sh (by omega), arrB_len (by omega)⟩
end
end U
namespace U
open PySem PySem.Spec PyProof.Rows L2

/-- a list of the rows -/
def LvR (H : Hp) (l : Addr) (ls : List Addr) (rows : LL) : Prop := H l = some (.lst (ls.map V.ref)) ∧ (ls.length = rows.length ∧ ∀ (k : Nat) (d : Addr) (r : List (Option Int)), ls[k]? = some d → rows[k]? = some r → H d = some (.lst (r.map pV)))
/-- whatever is no own object stays -/
def Flt (H H' : Hp) : Prop := ∀ b o, (∀ C dx fs, o ≠ .ins C dx fs) → H b = some o → H' b = some o
theorem Flt.of {H H' : Hp} (e : Same H H') : Flt H H' := fun b o _ z => e b o z
theorem Flt.trans {H H' H2 : Hp} (e : Flt H H') (f : Flt H' H2) : Flt H H2 := fun b o n z => f b o n (e b o n z)
theorem LvR.flt {H H' : Hp} {l : Addr} {ls : List Addr} {rows : LL} (g : LvR H l ls rows) (e : Flt H H') : LvR H' l ls rows :=
  ⟨e _ _ (fun _ _ _ z => nomatch z) g.1, g.2.1, fun k d r z1 z2 => e _ _ (fun _ _ _ z => nomatch z) (g.2.2 k d r z1 z2)⟩
/-- the yard under way -/
structure Ses (K : PySem.W.Frag) (y : Addr) (rows : LL) (H0 H : Hp) : Prop where
  n : H0 y = none
  s : Same H0 H
  k : YdK K H y rows
  r : ∀ a, YdR K H y a → H0 a = none
theorem Ses.mild {K : PySem.W.Frag} {y : Addr} {rows : LL} {H0 H H' : Hp} (h : Ses K y rows H0 H) (m : Mild K y H H') (k : YdK K H' y rows) : Ses K y rows H0 H' := by
  obtain ⟨a, b⟩ := m.bs H0 h.s h.n h.r
  exact ⟨h.n, a, k, b⟩
theorem Ses.same {K : PySem.W.Frag} {y : Addr} {rows : LL} {H0 H H' : Hp} (h : Ses K y rows H0 H) (e : Same H H') : Ses K y rows H0 H' := by
  obtain ⟨_, _, dx, t, rk, gy, _⟩ := id h.k
  exact h.mild (Mild.of_same gy e) (h.k.same e)
section
variable {K : PySem.W.Frag} (F : KF K) {vs : List V} {H H' : Hp} {Q : VK} {E : XK}
local macro_rules | `(tactic| walk_at "w") => `(tactic| try simp only [turnE, lcT, Snoc, tRet, tRetN, tAndV, tOrV, tNotV, tCB, tCons, tVar, tNil, tC, tOp, tSeq, tAsg, gName, gSub, tIfS, tDrop, tFn, tTup, tLst, tNext, tB, tTest, tNot, tAnd, tOr, tIf, tChain, tUn, rU, tFld, tPart, tNoPart, L2.tSl, tBM, tPar, tPar3, tTruth, tDNewK,
  L2.start, List.map_cons, List.map_nil, List.length_cons, List.length_nil, List.replicate_succ, List.replicate_zero, List.append_nil, List.nil_append, List.cons_append, List.singleton_append, Nat.sub_self, Nat.zero_add, Nat.reduceAdd, Nat.reduceSub,
  List.getElem?_cons_zero, List.getElem?_cons_succ, List.set_cons_zero, List.set_cons_succ, Option.some.injEq, exists_eq_left, exists_eq_left', V.int.injEq, V.bl.injEq, V.str.injEq, V.ref.injEq,
  uAdd_int, uAdd_str, uSub_int, uMul_int, uMul_str, uDiv_int, uMod_int, uPow_int, uLt_int, uLe_int, uGt_int, uGe_int, uIs_non, uNis_non, uIs_bl, uNis_bl, sp1, sp2, sp3, sp4, uEq_int, uEq_str, uNe_int, uNe_str, uSl_str, uLen_str, decide_eq_true_eq])
local macro_rules | `(tactic| walk_at "1") => `(tactic| try simp only [turnE, lcT, Snoc, tRet, tRetN, tAndV, tOrV, tNotV, tCB, tCons, tVar, tNil, tC, tOp, tAsg, gName, gSub, tIfS, tDrop, tFn, tTup, tLst, tNext, tB, tTest, tNot, tAnd, tOr, tIf, tChain, tUn, rU, tFld, tPart, tNoPart, L2.tSl, tBM, tPar, tPar3, tTruth, tDNewK,
  L2.start, List.map_cons, List.map_nil, List.length_cons, List.length_nil, List.replicate_succ, List.replicate_zero, List.append_nil, List.nil_append, List.cons_append, List.singleton_append, Nat.sub_self, Nat.zero_add, Nat.reduceAdd, Nat.reduceSub,
  List.getElem?_cons_zero, List.getElem?_cons_succ, List.set_cons_zero, List.set_cons_succ, Option.some.injEq, exists_eq_left, exists_eq_left', V.int.injEq, V.bl.injEq, V.str.injEq, V.ref.injEq,
  uAdd_int, uAdd_str, uSub_int, uMul_int, uMul_str, uDiv_int, uMod_int, uPow_int, uLt_int, uLe_int, uGt_int, uGe_int, uIs_non, uNis_non, uIs_bl, uNis_bl, sp1, sp2, sp3, sp4, uEq_int, uEq_str, uNe_int, uNe_str, uSl_str, uLen_str, decide_eq_true_eq])
local macro_rules | `(tactic| walk_at "s") => `(tactic| ((try dsimp only [turnE]); with_reducible refine seq_ ?_))

theorem low_prices {rows : LL} (h : RowsLo rows) : PricesOk rows := by
  intro p m
  obtain ⟨r, mr, m2⟩ := List.mem_flatMap.mp m
  obtain ⟨o, mo, e⟩ := List.mem_filterMap.mp m2
  have e : o = some p := e
  subst e
  have l := of_decide_eq_true (List.all_eq_true.mp (h r mr) _ mo)
  have a : (10 : Int) ^ 32 = 100000000000000000000000000000000 := by decide
  have b : (10 : Int) ^ 33 = 1000000000000000000000000000000000 := by decide
  rw [a] at l
  rw [b]
  omega
/-- a yard that has no reckoning yet -/
def YdN (K : PySem.W.Frag) (H : Hp) (y : Addr) (rows : LL) : Prop := Yd K H y rows ∧ ∃ dx t, H y = some (.ins (He.ga K "Yard") dx [("_rows", .ref t), ("_reckoning", .non)])
theorem YdN.off {y b : Addr} {rows : LL} {l : List V} (h : YdN K H y rows) (hb : H b = some (.lst l)) (o : Off b H H') : YdN K H' y rows := by
  obtain ⟨h1, dx, t, g⟩ := h
  exact ⟨o.yd hb h1, dx, t, o _ _ (by rintro rfl; rw [hb] at g; cases g) g⟩
theorem YdN.ses {y b : Addr} {rows : LL} {H0 : Hp} (h : YdN K H y rows) (hp : PricesOk rows) (n : H0 y = none) (s : Same H0 H) : Ses K y rows H0 H := by
  obtain ⟨h1, dx, t, g⟩ := h
  refine ⟨n, s, ⟨h1, hp, dx, t, .non, g, .inl rfl⟩, fun a ⟨d2, t2, z⟩ => ?_⟩
  rw [g] at z
  simp at z
theorem make_yardN {rows : LL} {v : V} {R : Addr → Hp → Prop} (hr : RowV K H v rows) (ho : RowsOk rows) (q : ∀ x H', Same H H' → H x = none → YdN K H' x rows → R x H') :
    ∀ x dx, H x = none → H dx = none → dx ≠ x → sp_Yard_init K [.ref x, v] (upd (upd H dx (.own x)) x (.ins (He.ga K "Yard") dx [])) (fun v H2 => v = .non ∧ R x H2) E := by
  intro x dx hx hdx hne
  have s1 : Same H (upd H dx (.own x)) := same_new hdx
  have hx1 : upd H dx (.own x) x = none := by rw [upd_ne hne.symm]; exact hx
  have s2 : Same (upd H dx (.own x)) (upd (upd H dx (.own x)) x (.ins (He.ga K "Yard") dx [])) := same_new hx1
  refine ⟨x, dx, rfl, upd_same, .inl ⟨rows, hr.same (s1.trans s2), ho, fun H' o hy ⟨d2, t2, g2⟩ => ⟨rfl, q x H' ?_ hx ⟨hy, d2, t2, g2⟩⟩⟩⟩
  exact Off.same (Off.trans (Same.off (s1.trans s2)) o) hx
/-- the heap without the bag -/
def Wo (H : Hp) (b : Addr) : Hp := fun a => if a = b then none else H a
theorem Wo.of {b : Addr} (o : Off b H H') : Same (Wo H b) H' := fun a u e => by
  unfold Wo at e
  split at e
  · cases e
  · rename_i n
    exact o a u n e
theorem Wo.back {b : Addr} (s : Same (Wo H b) H') : Off b H H' := fun a u n e => s a u (by unfold Wo; rw [if_neg n]; exact e)
theorem Wo.non {a b : Addr} (n : H a = none) : Wo H b a = none := by
  unfold Wo
  split
  · rfl
  · exact n
/-- where the law stands: its box, its rows, its yard -/
structure Wh (K : PySem.W.Frag) (H : Hp) (b : Addr) (m : Int) (L y : Addr) (as : List Addr) (rows : List (List (Option Int))) : Prop where
  box : Bx H b m
  pi : PI H L b as rows
  yd : YdN K H y rows
theorem Wh.off {H' : Hp} {b L y : Addr} {m m' : Int} {as : List Addr} {rows : List (List (Option Int))} (w : Wh K H b m L y as rows) (o : Off b H H') (hb : Bx H' b m') : Wh K H' b m' L y as rows := by
  obtain ⟨l, hl⟩ := w.box.at_
  exact ⟨hb, w.pi.off o, w.yd.off hl o⟩
theorem Wh.same {H' : Hp} {b L y : Addr} {m : Int} {as : List Addr} {rows : List (List (Option Int))} (w : Wh K H b m L y as rows) (s : Same H H') : Wh K H' b m L y as rows := w.off (Same.off s) (w.box.same s)
abbrev manyT (K : PySem.W.Frag) (w : Str) (tv : TE) (n : Nat) : TE := tOp uMul (tLst (tCons (tLst (tCons (tC (.str w)) (tCons (tCB (uReprQ K) (tCons tv tNil)) tNil))) tNil)) (tC (.int (n : Nat)))
abbrev eachT (K : PySem.W.Frag) (ti : TI) (tb tc td : TE) : TE := tLc ti (gName 9) tYes (tFn (sp__law_caught K) E0 (tCons (tVar 9) (tCons tb (tCons tc (tCons td tNil))))) [9]
/-- doors that all refuse -/
theorem test_each {ti : TI} {ks : List Nat} {σ : L2.St} {D : Ends} {tb tc td tv : TE} {y x z v : V} {f w : Str} {d : PyData}
    (open_ : ∀ Q2 : VK, (∀ (H1 : Hp) (J : It) (G : Hp → Prop), Same H H1 → Plain J (ks.map fun k => V.int (k : Nat)) G → (∀ H', Same H1 H' → G H') → ∀ C, H1 C = none → LcB J (gName 9) tYes (tFn (sp__law_caught K) E0 (tCons (tVar 9) (tCons tb (tCons tc (tCons td tNil))))) [9] σ H1 C (Q2 (.ref C))) → eachT K ti tb tc td σ H Q2)
    (few : ks.length ≤ 12) (h2 : ∀ k, Ev tb (σ.set 9 (some (.int (k : Nat)))) y) (h3 : ∀ k, Ev tc (σ.set 9 (some (.int (k : Nat)))) x) (h4 : ∀ k, Ev td (σ.set 9 (some (.int (k : Nat)))) z) (l9 : 9 < σ.length) (hv : Ev tv σ v)
    (hf : f ∈ excN) (hw : wordOf f = w) (hi : ∀ k ∈ ks, k ≤ 11) (out : ∀ k ∈ ks, ∀ H', Same H H' → Out K H' y x z k (fun _ => False) (RxS H' f v)) (fit : Fit K H v d) (q : ∀ H', Same H H' → D.nx σ H') :
    tIfS (tTest (tOp (uNe K) (eachT K ti tb tc td) (manyT K w tv ks.length))) (tRet (tC (.bl false))) tNext D σ H := by
  subst hw
  refine open_ (fun x H1 => manyT K (wordOf f) tv ks.length σ H1 fun y H2 => uNe K x y H2 fun v H3 => ∃ k, v = V.bl k ∧ if k = true then D.rt (.bl false) H3 else D.nx σ H3) fun H1 J G s1 P hG C nC => ?_
  refine refused_all P nC few hG h2 h3 h4 l9 hf hi (fun k m H2 s2 => out k m H2 (s1.trans s2)) (fit.same s1) fun H2 ls s2 gC hl each => ?_
  refine ne_times hv (word_ok f) ((fit.same s1).same s2) gC hl few each fun H3 s3 => ⟨_, rfl, ?_⟩
  rw [if_neg (by decide)]
  exact q H3 ((s1.trans s2).trans s3)
theorem ints_nat (n : Nat) : intsL 0 n = (List.range n).map fun k => V.int (k : Nat) := by
  unfold intsL
  (refine List.map_congr_left fun k _ => ?_)
  rw [Int.zero_add]
theorem open_rng {n : Nat} (hn : n ≤ 100) {σ : L2.St} {tb tc td : TE} (Q2 : VK) (h : ∀ (H1 : Hp) (J : It) (G : Hp → Prop), Same H H1 → Plain J ((List.range n).map fun k => V.int (k : Nat)) G → (∀ H', Same H1 H' → G H') → ∀ C, H1 C = none → LcB J (gName 9) tYes (tFn (sp__law_caught K) E0 (tCons (tVar 9) (tCons tb (tCons tc (tCons td tNil))))) [9] σ H1 C (Q2 (.ref C))) :
    eachT K (iRng1 (tCons (tC (.int (n : Nat))) tNil)) tb tc td σ H Q2 :=
  tLc_rng1 (n := n) (fun R r => r) (by omega) fun C nC => h H _ _ (Same.refl H) (ints_nat n ▸ plain_R (lo := 0) (n := n)) (fun _ _ => trivial) C nC
theorem open_tup {ks : List Nat} {σ : L2.St} {tb tc td : TE} {tt : TE} (ht : ∀ (Q : VK), (∀ T, H T = none → Q (.ref T) (upd H T (.tup (ks.map fun k => V.int (k : Nat))))) → tt σ H Q) (Q2 : VK) (h : ∀ (H1 : Hp) (J : It) (G : Hp → Prop), Same H H1 → Plain J (ks.map fun k => V.int (k : Nat)) G → (∀ H', Same H1 H' → G H') → ∀ C, H1 C = none → LcB J (gName 9) tYes (tFn (sp__law_caught K) E0 (tCons (tVar 9) (tCons tb (tCons tc (tCons td tNil))))) [9] σ H1 C (Q2 (.ref C))) :
    eachT K (iSeq K tt) tb tc td σ H Q2 := by
  refine tLc_inT (ht _ fun T nT => ⟨T, rfl, ⟨_, .inl (.inl upd_same)⟩, fun C nC => ?_⟩)
  exact h _ _ _ (same_new nT) (plain_T (K := K) (a := T) (xs := ks.map fun k => V.int (k : Nat))) (fun H' s => .inl (.inl (s _ _ upd_same))) C nC
/-- one door that refuses -/
theorem test_one {σ : L2.St} {ta tb tc td tv : TE} {y x z v : V} {f w : Str} {d : PyData} {i : Nat} (h1 : Ev ta σ (.int (i : Nat))) (h2 : Ev tb σ y) (h3 : Ev tc σ x) (h4 : Ev td σ z) (hv : Ev tv σ v)
    (hf : f ∈ excN) (hw : wordOf f = w) (hi : i ≤ 11) (out : Out K H y x z i (fun _ => False) (RxS H f v)) (fit : Fit K H v d) {Q : VK} (q : ∀ H', Same H H' → Q (.bl false) H') :
    tOp (uNe K) (tFn (sp__law_caught K) E (tCons ta (tCons tb (tCons tc (tCons td tNil))))) (tLst (tCons (tC (.str w)) (tCons (tCB (uReprQ K) (tCons tv tNil)) tNil))) σ H Q := by
  subst hw
  refine ev_call h1 h2 h3 h4 (refused hf hi out fit fun l H1 s1 nl hl => ?_)
  refine hv _ _ ⟨v, d, rfl, (fit.same s1).t.1, fit.t.2.1, fit.t.2.2.1, fit.t.2.2.2, (show 2 ≤ sizeLine by decide), fun p hp => ?_⟩
  have s2 : Same H1 (upd H1 p (.lst [.str (wordOf f), .str d.shown])) := same_new hp
  have dp : ∀ {l : Addr} {H : Hp}, H l = some (.lst [.str (wordOf f), .str d.shown]) → SqL K H l ([wordOf f, d.shown].map V.str) := fun h => .inl (.inl h)
  have ok := two_ok (word_ok f) (ok_shown d fit.f)
  refine ⟨_, _, dp_strs (dp (s2 _ _ hl)), dp_strs (dp upd_same), strs_shaped ok, strs_shaped ok, ?_⟩
  rw [SeqAt.eqv_refl _ (SeqAt.canLay_of_shaped (strs_shaped ok))]
  exact q _ (s1.trans s2)
/-- .. with the text None -/
theorem test_non {σ : L2.St} {ta tb tc td : TE} {y x z : V} {f w : Str} {i : Nat} (h1 : Ev ta σ (.int (i : Nat))) (h2 : Ev tb σ y) (h3 : Ev tc σ x) (h4 : Ev td σ z)
    (hf : f ∈ excN) (hw : wordOf f = w) (hi : i ≤ 11) (out : Out K H y x z i (fun _ => False) (RxS H f .non)) {Q : VK} (q : ∀ H', Same H H' → Q (.bl false) H') :
    tOp (uNe K) (tFn (sp__law_caught K) E (tCons ta (tCons tb (tCons tc (tCons td tNil))))) (tLst (tCons (tC (.str w)) (tCons (tC (.str "None")) tNil))) σ H Q := by
  subst hw
  have fit : Fit K H .non .none := (good_n (K := K) (H := H)).1
  refine ev_call h1 h2 h3 h4 (refused hf hi out fit fun l H1 s1 nl hl => ⟨(show 2 ≤ sizeLine by decide), fun p hp => ?_⟩)
  have e : PyData.shown .none = "None" := by rw [PyData.shown]
  rw [e] at hl
  have s2 : Same H1 (upd H1 p (.lst [.str (wordOf f), .str "None"])) := same_new hp
  have dp : ∀ {l : Addr} {H : Hp}, H l = some (.lst [.str (wordOf f), .str "None"]) → SqL K H l ([wordOf f, "None"].map V.str) := fun h => .inl (.inl h)
  have ok := two_ok (word_ok f) (show PyData.strOk "None" = true by decide +kernel)
  refine ⟨_, _, dp_strs (dp (s2 _ _ hl)), dp_strs (dp upd_same), strs_shaped ok, strs_shaped ok, ?_⟩
  rw [SeqAt.eqv_refl _ (SeqAt.canLay_of_shaped (strs_shaped ok))]
  exact q _ (s1.trans s2)
/-- doors that are all fine -/
theorem test_fine {ti : TI} {ks : List Nat} {σ : L2.St} {D : Ends} {tb tc td : TE} {p a : Addr} {rows : List (List (Option Int))}
    (open_ : ∀ Q2 : VK, (∀ (H1 : Hp) (J : It) (G : Hp → Prop), Same H H1 → Plain J (ks.map fun k => V.int (k : Nat)) G → (∀ H', Same H1 H' → G H') → ∀ C, H1 C = none → LcB J (gName 9) tYes (tFn (sp__law_caught K) E0 (tCons (tVar 9) (tCons tb (tCons tc (tCons td tNil))))) [9] σ H1 C (Q2 (.ref C))) → eachT K ti tb tc td σ H Q2)
    (few : ks.length ≤ 12) (h2 : ∀ k, Ev tb (σ.set 9 (some (.int (k : Nat)))) (.ref p)) (h3 : ∀ k, Ev tc (σ.set 9 (some (.int (k : Nat)))) .non) (h4 : ∀ k, Ev td (σ.set 9 (some (.int (k : Nat)))) .non) (l9 : 9 < σ.length)
    (hi : ∀ k ∈ ks, k = 0 ∨ k = 2 ∨ k = 3) (hy : YdK K H p rows) (yr : YdR K H p a) (q : ∀ H', Same H H' → D.nx σ H') :
    tIfS (tTest (tOp (uNe K) (eachT K ti tb tc td) (tOp uMul (tLst (tCons (tLst (tCons (tC (.str "none")) tNil)) tNil)) (tC (.int (ks.length : Nat)))))) (tRet (tC (.bl false))) tNext D σ H := by
  refine open_ (fun x H1 => tOp uMul (tLst (tCons (tLst (tCons (tC (.str "none")) tNil)) tNil)) (tC (.int (ks.length : Nat))) σ H1 fun y H2 => uNe K x y H2 fun v H3 => ∃ k, v = V.bl k ∧ if k = true then D.rt (.bl false) H3 else D.nx σ H3) fun H1 J G s1 P hG C nC => ?_
  refine fine_all P nC few hG h2 h3 h4 l9 hi (hy.same s1) (yr.same s1) fun H2 ls s2 gC hl each => ?_
  refine ne_times1 (by decide +kernel) gC hl few each fun H3 s3 => ⟨_, rfl, ?_⟩
  rw [if_neg (by decide)]
  exact q H3 ((s1.trans s2).trans s3)
end
end U
namespace U
open PySem PySem.Spec PyProof.Rows L2

def sp__law_right (K : PySem.W.Frag) : Sp := sp1 fun x H Q _ => ∃ b m, x = .ref b ∧ Bx H b m ∧ m ≤ 100000 ∧ ∀ H', Off b H H' → Q (.bl true) H'
def t__law_right (K : PySem.W.Frag) (E : XK) : TS := (tSeq (tAsg (tFn (sp__law_rows K) E (tCons (tVar 0) (tCons (tC (.int 5)) tNil))) (gName 1)) (tSeq (tAsg (tTup (tCons (tMake (He.ga K "Yard") (sp_Yard_init K) [] E (tCons (tVar 1) tNil)) (tCons (tFn (sp__law_word K) E (tCons (tVar 0) (tCons (tCB (uLen K) (tCons (tVar 1) tNil)) tNil))) tNil))) (gTup K 2 (gCons (gName 2) (gCons (gName 3) gNil)))) (tSeq (tAsg (tOp (uIx K) (tLst (tCons (tC .non) (tCons (tC (.int 5)) (tCons (tC (.str "abc")) (tCons (tLst tNil) (tCons tDNewK (tCons (tC (.bl true)) (tCons (tVar 1) tNil)))))))) (tFn (sp__law_take K) E (tCons (tVar 0) (tCons (tC (.int 7)) tNil)))) (gName 4)) (tSeq (tIfS (tTest (tOp (uNe K) (tLc (iRng1 (tCons (tC (.int 12)) tNil)) (gName 9) tYes (tFn (sp__law_caught K) E0 (tCons (tVar 9) (tCons (tVar 4) (tCons (tC .non) (tCons (tC .non) tNil))))) [9]) (tOp uMul (tLst (tCons (tLst (tCons (tC (.str "yard")) (tCons (tCB (uReprQ K) (tCons (tVar 4) tNil)) tNil))) tNil)) (tC (.int 12))))) (tRet (tC (.bl false))) tNext) (tSeq (tAsg (tLst (tCons (tC .non) (tCons (tC (.str "")) (tCons (tOp uAdd (tVar 3) (tC (.str "a"))) (tCons (tSl (uSl K) (tVar 3) (tPart (tC (.int 1))) tNoPart) (tCons (tOp uAdd (tSl (uSl K) (tVar 3) tNoPart (tPart (tUn (rU fun i => .int (-i)) (tC (.int 1))))) (tC (.str "d"))) (tCons (tOp uAdd (tSl (uSl K) (tVar 3) tNoPart (tPart (tUn (rU fun i => .int (-i)) (tC (.int 1))))) (tC (.str "A"))) (tCons (tCB (uLst K) (tCons (tVar 3) tNil)) (tCons (tC (.int 5)) (tCons (tCB (uTup K) (tCons (tVar 3) tNil)) (tCons (tOp uAdd (tC (.str " ")) (tVar 3)) tNil))))))))))) (gName 5)) (tSeq (tAsg (tTup (tCons (tOp (uIx K) (tVar 5) (tFn (sp__law_take K) E (tCons (tVar 0) (tCons (tC (.int 10)) tNil)))) (tCons (tOp (uIx K) (tVar 5) (tFn (sp__law_take K) E (tCons (tVar 0) (tCons (tC (.int 10)) tNil)))) tNil))) (gTup K 2 (gCons (gName 6) (gCons (gName 7) gNil)))) (tSeq (tIfS (tTest (tOp (uNe K) (tLc (iSeq K (tTup (tCons (tC (.int 5)) (tCons (tC (.int 6)) tNil)))) (gName 9) tYes (tFn (sp__law_caught K) E0 (tCons (tVar 9) (tCons (tVar 2) (tCons (tVar 6) (tCons (tC .non) tNil))))) [9]) (tOp uMul (tLst (tCons (tLst (tCons (tC (.str "word")) (tCons (tCB (uReprQ K) (tCons (tVar 6) tNil)) tNil))) tNil)) (tC (.int 2))))) (tRet (tC (.bl false))) tNext) (tSeq (tIfS (tTest (tOp (uNe K) (tLc (iSeq K (tTup (tCons (tC (.int 7)) (tCons (tC (.int 8)) (tCons (tC (.int 9)) (tCons (tC (.int 10)) (tCons (tC (.int 11)) tNil))))))) (gName 9) tYes (tFn (sp__law_caught K) E0 (tCons (tVar 9) (tCons (tVar 2) (tCons (tVar 6) (tCons (tVar 7) tNil))))) [9]) (tOp uMul (tLst (tCons (tLst (tCons (tC (.str "word")) (tCons (tCB (uReprQ K) (tCons (tVar 6) tNil)) tNil))) tNil)) (tC (.int 5))))) (tRet (tC (.bl false))) tNext) (tSeq (tIfS (tTest (tOp (uNe K) (tLc (iSeq K (tTup (tCons (tC (.int 7)) (tCons (tC (.int 8)) (tCons (tC (.int 9)) (tCons (tC (.int 10)) (tCons (tC (.int 11)) tNil))))))) (gName 9) tYes (tFn (sp__law_caught K) E0 (tCons (tVar 9) (tCons (tVar 2) (tCons (tVar 3) (tCons (tVar 7) tNil))))) [9]) (tOp uMul (tLst (tCons (tLst (tCons (tC (.str "word")) (tCons (tCB (uReprQ K) (tCons (tVar 7) tNil)) tNil))) tNil)) (tC (.int 5))))) (tRet (tC (.bl false))) tNext) (tSeq (tAsg (tOp (uIx K) (tLst (tCons (tC .non) (tCons (tC (.str "")) (tCons (tC (.str "aa")) (tCons (tC (.str "abc")) (tCons (tC (.int 5)) (tCons (tC (.str "AB")) (tCons (tLst (tCons (tC (.str "ab")) tNil)) (tCons (tC (.str "ba ")) tNil))))))))) (tFn (sp__law_take K) E (tCons (tVar 0) (tCons (tC (.int 8)) tNil)))) (gName 8)) (tSeq (tIfS (tOr (tTest (tOp (uNe K) (tFn (sp__law_caught K) E (tCons (tC (.int 1)) (tCons (tVar 2) (tCons (tVar 8) (tCons (tC .non) tNil))))) (tLst (tCons (tC (.str "way")) (tCons (tCB (uReprQ K) (tCons (tVar 8) tNil)) tNil))))) (tTest (tOp (uNe K) (tFn (sp__law_caught K) E (tCons (tC (.int 4)) (tCons (tVar 2) (tCons (tC .non) (tCons (tVar 8) tNil))))) (tLst (tCons (tC (.str "paper")) (tCons (tC (.str "None")) tNil)))))) (tRet (tC (.bl false))) tNext) (tSeq (tIfS (tTest (tOp (uNe K) (tFn (sp__law_caught K) E (tCons (tC (.int 4)) (tCons (tVar 2) (tCons (tFn (sp_tables K) E (tCons (tVar 2) tNil)) (tCons (tVar 8) tNil))))) (tLst (tCons (tC (.str "way")) (tCons (tCB (uReprQ K) (tCons (tVar 8) tNil)) tNil))))) (tRet (tC (.bl false))) tNext) (tSeq (tIfS (tTest (tOp (uNe K) (tFn (sp__law_caught K) E (tCons (tC (.int 11)) (tCons (tVar 2) (tCons (tVar 3) (tCons (tVar 3) tNil))))) (tLst (tCons (tC (.str "paper")) (tCons (tC (.str "None")) tNil))))) (tRet (tC (.bl false))) tNext) (tSeq (tIfS (tTest (tOp (uNe K) (tLc (iSeq K (tTup (tCons (tC (.int 0)) (tCons (tC (.int 2)) (tCons (tC (.int 3)) tNil))))) (gName 9) tYes (tFn (sp__law_caught K) E0 (tCons (tVar 9) (tCons (tVar 2) (tCons (tC .non) (tCons (tC .non) tNil))))) [9]) (tOp uMul (tLst (tCons (tLst (tCons (tC (.str "none")) tNil)) tNil)) (tC (.int 3))))) (tRet (tC (.bl false))) tNext) (tRet (tAndV (tFn (sp__law_very_right K) E (tCons (tVar 2) (tCons (tVar 3) tNil))) (tOp (uEq K) (tMeth (He.ga K "Yard") "rows" (sp_Yard_rows K) [] E (tVar 2) tNil) (tVar 1))))))))))))))))))
section
variable {K : PySem.W.Frag} (F : KF K) {vs : List V} {H H' : Hp} {Q : VK} {E : XK}
local macro_rules | `(tactic| walk_at "w") => `(tactic| try simp only [turnE, lcT, Snoc, tRet, tRetN, tAndV, tOrV, tNotV, tCB, tCons, tVar, tNil, tC, tOp, tSeq, tAsg, gName, gSub, tIfS, tDrop, tFn, tTup, tLst, tNext, tB, tTest, tNot, tAnd, tOr, tIf, tChain, tUn, rU, tFld, tPart, tNoPart, L2.tSl, tBM, tPar, tPar3, tTruth, tDNewK,
  L2.start, List.map_cons, List.map_nil, List.length_cons, List.length_nil, List.replicate_succ, List.replicate_zero, List.append_nil, List.nil_append, List.cons_append, List.singleton_append, Nat.sub_self, Nat.zero_add, Nat.reduceAdd, Nat.reduceSub,
  List.getElem?_cons_zero, List.getElem?_cons_succ, List.set_cons_zero, List.set_cons_succ, Option.some.injEq, exists_eq_left, exists_eq_left', V.int.injEq, V.bl.injEq, V.str.injEq, V.ref.injEq,
  uAdd_int, uAdd_str, uSub_int, uMul_int, uMul_str, uDiv_int, uMod_int, uPow_int, uLt_int, uLe_int, uGt_int, uGe_int, uIs_non, uNis_non, uIs_bl, uNis_bl, sp1, sp2, sp3, sp4, uEq_int, uEq_str, uNe_int, uNe_str, uSl_str, uLen_str, decide_eq_true_eq])
local macro_rules | `(tactic| walk_at "1") => `(tactic| try simp only [turnE, lcT, Snoc, tRet, tRetN, tAndV, tOrV, tNotV, tCB, tCons, tVar, tNil, tC, tOp, tAsg, gName, gSub, tIfS, tDrop, tFn, tTup, tLst, tNext, tB, tTest, tNot, tAnd, tOr, tIf, tChain, tUn, rU, tFld, tPart, tNoPart, L2.tSl, tBM, tPar, tPar3, tTruth, tDNewK,
  L2.start, List.map_cons, List.map_nil, List.length_cons, List.length_nil, List.replicate_succ, List.replicate_zero, List.append_nil, List.nil_append, List.cons_append, List.singleton_append, Nat.sub_self, Nat.zero_add, Nat.reduceAdd, Nat.reduceSub,
  List.getElem?_cons_zero, List.getElem?_cons_succ, List.set_cons_zero, List.set_cons_succ, Option.some.injEq, exists_eq_left, exists_eq_left', V.int.injEq, V.bl.injEq, V.str.injEq, V.ref.injEq,
  uAdd_int, uAdd_str, uSub_int, uMul_int, uMul_str, uDiv_int, uMod_int, uPow_int, uLt_int, uLe_int, uGt_int, uGe_int, uIs_non, uNis_non, uIs_bl, uNis_bl, sp1, sp2, sp3, sp4, uEq_int, uEq_str, uNe_int, uNe_str, uSl_str, uLen_str, decide_eq_true_eq])
local macro_rules | `(tactic| walk_at "s") => `(tactic| ((try dsimp only [turnE]); with_reducible refine seq_ ?_))

/-- one out of a list, the bag drawn from -/
theorem drawn {b L y p : Addr} {m lim : Int} {as : List Addr} {rows : List (List (Option Int))} {xs : List V} (w : Wh K H b m L y as rows) (hm : m ≤ 100000000) (h0 : 0 < lim) (h1 : lim ≤ 100) (gp : H p = some (.lst xs)) (np : p ≠ b)
    (q : ∀ e H', 0 ≤ e → e < lim → Off b H H' → Wh K H' b (m + 1) L y as rows → H' p = some (.lst xs) → Q (.int e) H') : sp__law_take K [.ref b, .int lim] H Q E :=
  take_of w.box (by omega) h0 (by omega) fun e H' e0 e1 o b1 => q e H' e0 e1 o (w.off o b1) (o _ _ np gp)
include F in
theorem read__law_right (h : sp__law_right K vs H Q E) : t__law_right K E { nx := fun _ H' => Q .non H', rt := Q } (start ["_law_bag_here", "_law_rows_here", "_law_yard", "_law_word_here", "_law_odd", "_law_words", "_law_bad", "_law_worse", "_law_key", "_law_way"] vs) H := by
  match vs, h with
  | [_], ⟨b, m, rfl, hb, hm, q⟩ =>
    unfold t__law_right
    walk_at "s"
    walk_at "1"
    refine ⟨b, _, 5, rfl, rfl, by decide, by decide, hb, by omega, fun rows v H2 hrl ho hv o2 b2 hlo ⟨L, as, hvL, hp⟩ => ?_⟩
    subst hvL
    have h1 := ho.1
    have h6 : ∀ r ∈ rows, r.length = 6 := fun r m => (ho.2.2 r m).1
    have h5 : rows.length ≤ 5 := hrl
    have q : ∀ H', Same (Wo H2 b) H' → Q (.bl true) H' := fun H' s => q H' (o2.trans (Wo.back s))
    clear o2
    walk_at "s"
    simp only [tAsg, tTup, tCons, tNil]
    walk_at "1"
    simp only [tMake]
    walk_at "1"
    refine make_yardN hv ho fun y H3 s3 ny hy => ?_
    refine uLen_seq (.inl (.inl (.inl (s3 _ _ hp.1)))) ?_
    rw [List.length_map, hp.2.2.1]
    have w3 : Wh K H3 b (m + 2000) L y as rows := ⟨b2.same s3, hp.off (Same.off s3), hy⟩
    refine ⟨b, _, rows.length, rfl, rfl, by omega, w3.box, by omega, fun ds H4 hl h3 o4 b4 => ?_⟩
    have w4 := w3.off o4 b4
    have oW : Off b H2 H4 := Off.trans (Same.off s3) o4
    clear w3 o4 b4
    refine ⟨by decide, fun T nT => ?_⟩
    have sT : Same H4 (upd H4 T (.tup [.ref y, .str (wd ds)])) := same_new nT
    have gT : upd H4 T (.tup [.ref y, .str (wd ds)]) T = some (.tup [.ref y, .str (wd ds)]) := upd_same
    have w5 := w4.same sT
    have oW := oW.trans (Same.off sT)
    generalize upd H4 T (.tup [.ref y, .str (wd ds)]) = H5 at *
    refine ⟨T, _, rfl, .inl (.inl gT), rfl, ?_⟩
    refine ⟨_, _, rfl, _, _, rfl, rfl, ?_⟩
    simp only [List.set_cons_zero, List.set_cons_succ]
    have arr : Arr rows.length (.str (wd ds)) ds := ⟨rfl, hl, h3⟩
    clear w4 gT sT s3 hp hy
    -- what is no yard
    walk_at "s"
    walk_at "1"
    refine ⟨by decide, fun a1 n1 d1 nd1 => ?_⟩
    have e12 : d1 ≠ a1 := by rintro rfl; rw [upd_same] at nd1; cases nd1
    have s12 : Same H5 (upd (upd H5 a1 (.lst [])) d1 (.dK [])) := (same_new n1).trans (same_new nd1)
    have g1 : upd (upd H5 a1 (.lst [])) d1 (.dK []) a1 = some (.lst []) := by rw [upd_ne e12.symm, upd_same]
    have g2 : upd (upd H5 a1 (.lst [])) d1 (.dK []) d1 = some (.dK []) := upd_same
    have nb1 := w5.box.ne n1
    have nb2 : d1 ≠ b := (w5.same (same_new n1)).box.ne nd1
    generalize upd (upd H5 a1 (.lst [])) d1 (.dK []) = H6 at *
    refine ⟨by decide, fun p1 np1 => ?_⟩
    have w6 := w5.same s12
    have s3 : Same H6 (upd H6 p1 (.lst [.non, .int 5, .str "abc", .ref a1, .ref d1, .bl true, .ref L])) := same_new np1
    have gp : upd H6 p1 (.lst [.non, .int 5, .str "abc", .ref a1, .ref d1, .bl true, .ref L]) p1 = some (.lst [.non, .int 5, .str "abc", .ref a1, .ref d1, .bl true, .ref L]) := upd_same
    have nb3 := w6.box.ne np1
    have g1 := s3 _ _ g1
    have g2 := s3 _ _ g2
    have w7 := w6.same s3
    have oW := (oW.trans (Same.off s12)).trans (Same.off s3)
    generalize upd H6 p1 (.lst [.non, .int 5, .str "abc", .ref a1, .ref d1, .bl true, .ref L]) = H7 at *
    refine drawn w7 (by omega) (by decide) (by decide) gp nb3 fun e H8 e0 e1 o8 w8 gp8 => ?_
    obtain ⟨ov, od, hat, firm⟩ := odd_yard (K := K) (b := b) w8.pi h5 (o8 _ _ nb1 g1) nb1 (o8 _ _ nb2 g2) nb2 e0 e1
    have oW := oW.trans o8
    clear w5 w6 w7 s12 s3 gp n1 nd1 np1 g1 g2 e12 o8
    refine uIx_lst gp8 hat ?_
    clear gp8 hat
    walk_at "s"
    refine test_each (ks := List.range 12) (y := ov) (x := .non) (z := .non) (v := ov) (f := "InvalidYard") (d := od) (open_rng (n := 12) (by decide)) (by decide) (fun k => ev_var rfl) (fun k => ev_c) (fun k => ev_c) (show 9 < 10 by decide) (ev_var rfl) (by decide) (by decide) (fun k mk => by have := List.mem_range.mp mk; omega) (fun k mk H' s => out_yard (firm.same s).2 (by have := List.mem_range.mp mk; omega)) (firm.same (Same.refl _)).1 fun H9 s9 => ?_
    have w9 := w8.same s9
    have oW := oW.trans (Same.off s9)
    clear w8 s9 firm
    -- words
    walk_at "s"
    walk_at "1"
    have hsz : ∀ es : List Nat, es.length ≤ 6 → (wd es).length ≤ sizeLine := fun es h => by rw [wd_length]; exact Nat.le_trans h (by decide)
    have hcut : cutS (wd ds) none (some (-1)) = wd (ds.take (ds.length - 1)) := by
      rw [cut_wd]
      have e1 : HT.sIx ds.length 0 (none : Option Int) = 0 := rfl
      have e2 : HT.sIx ds.length ds.length (some (-1)) = ds.length - 1 := by
        show (if (-1 : Int) < 0 then ((-1 : Int) + (ds.length : Int)).toNat else min (-1 : Int).toNat ds.length) = _
        rw [if_pos (by decide)]
        omega
      rw [e1, e2]
      rfl
    have hcut1 : cutS (wd ds) (some 1) none = wd (ds.drop 1) := by
      rw [cut_wd]
      have e1 : HT.sIx ds.length 0 (some (1 : Int)) = 1 := by
        rw [show (1 : Int) = ((1 : Nat) : Int) from rfl, HT.sIx_nat]
        omega
      rw [e1, HT.sIx_none, List.take_of_length_le (by rw [List.length_drop]; exact Nat.le_refl _)]
    rw [hcut, hcut1]
    have l1 : ∀ z : Str, z.length = 1 → (wd ds).length + z.length ≤ sizeLine := fun z h => by rw [wd_length, h]; exact Nat.le_trans (show _ ≤ 6 by omega) (by decide)
    have l2 : ∀ z : Str, z.length = 1 → (wd (ds.take (ds.length - 1))).length + z.length ≤ sizeLine := fun z h => by rw [wd_length, h, List.length_take]; exact Nat.le_trans (show _ ≤ 6 by omega) (by decide)
    refine ⟨l1 _ (by decide +kernel), hsz _ (by omega), hsz _ (by omega), l2 _ (by decide +kernel), hsz _ (by omega), l2 _ (by decide +kernel), by rw [wd_length]; omega, fun a1 n1 => ⟨by rw [wd_length]; omega, fun a2 n2 => ⟨by rw [Nat.add_comm]; exact l1 _ (by decide +kernel), by decide, fun p1 np1 => ?_⟩⟩⟩
    rw [strL_wd] at n2 np1 ⊢
    have e12 : a2 ≠ a1 := by rintro rfl; rw [upd_same] at n2; cases n2
    have s12 : Same H9 (upd (upd H9 a1 (.lst (ds.map fun d => V.str (pl d)))) a2 (.tup (ds.map fun d => V.str (pl d)))) := (same_new n1).trans (same_new n2)
    have g1 : upd (upd H9 a1 (.lst (ds.map fun d => V.str (pl d)))) a2 (.tup (ds.map fun d => V.str (pl d))) a1 = some (.lst (ds.map fun d => V.str (pl d))) := by rw [upd_ne e12.symm, upd_same]
    have g2 : upd (upd H9 a1 (.lst (ds.map fun d => V.str (pl d)))) a2 (.tup (ds.map fun d => V.str (pl d))) a2 = some (.tup (ds.map fun d => V.str (pl d))) := upd_same
    have nb1 := w9.box.ne n1
    have nb2 : a2 ≠ b := (w9.same (same_new n1)).box.ne n2
    have w10 := w9.same s12
    have nb3 := w10.box.ne np1
    generalize upd (upd H9 a1 (.lst (ds.map fun d => V.str (pl d)))) a2 (.tup (ds.map fun d => V.str (pl d))) = H10 at *
    have s3 : Same H10 (upd H10 p1 (.lst (menuL ds a1 a2))) := same_new np1
    have gp : upd H10 p1 (.lst (menuL ds a1 a2)) p1 = some (.lst (menuL ds a1 a2)) := upd_same
    have g1 := s3 _ _ g1
    have g2 := s3 _ _ g2
    have w11 := w10.same s3
    have oW := (oW.trans (Same.off s12)).trans (Same.off s3)
    refine (show tSeq _ _ _ [some (.ref b), some (.ref L), some (.ref y), some (.str (wd ds)), some ov, some (.ref p1), none, none, none, none] (upd H10 p1 (.lst (menuL ds a1 a2))) from ?_)
    generalize upd H10 p1 (.lst (menuL ds a1 a2)) = H11 at *
    clear w9 w10 s12 s3 n1 n2 np1 e12 hcut hcut1 l1 l2 hsz
    have hl1 : 1 ≤ ds.length := by omega
    walk_at "s"
    simp only [tAsg, tTup, tCons, tNil]
    walk_at "1"
    refine drawn w11 (by omega) (by decide) (by decide) gp nb3 fun e1 H12 x0 x1 o12 w12 gp => ?_
    have g1 := o12 _ _ nb1 g1
    have g2 := o12 _ _ nb2 g2
    obtain ⟨bv, bd, hat1, firm1, sh1, ar1⟩ := odd_word (K := K) (b := b) h3 hl1 (by omega) g1 nb1 g2 nb2 x0 x1
    have oW := oW.trans o12
    refine uIx_lst gp hat1 ?_
    walk_at "1"
    refine drawn w12 (by omega) (by decide) (by decide) gp nb3 fun e2 H13 y0 y1 o13 w13 gp => ?_
    have g1 := o13 _ _ nb1 g1
    have g2 := o13 _ _ nb2 g2
    obtain ⟨wv, we, hat2, firm2, sh2, ar2⟩ := odd_word (K := K) (b := b) h3 hl1 (by omega) g1 nb1 g2 nb2 y0 y1
    have oW := oW.trans o13
    have firm1 := firm1.off o13
    refine uIx_lst gp hat2 ?_
    refine ⟨by decide, fun T2 nT2 => ?_⟩
    have sT : Same H13 (upd H13 T2 (.tup [bv, wv])) := same_new nT2
    have gT : upd H13 T2 (.tup [bv, wv]) T2 = some (.tup [bv, wv]) := upd_same
    have w14 := w13.same sT
    have oW := oW.trans (Same.off sT)
    have firm1 := firm1.off (Same.off sT)
    have firm2 := firm2.off (Same.off sT)
    generalize upd H13 T2 (.tup [bv, wv]) = H14 at *
    refine ⟨T2, _, rfl, .inl (.inl gT), rfl, ?_⟩
    refine ⟨_, _, rfl, _, _, rfl, rfl, ?_⟩
    simp only [List.set_cons_zero, List.set_cons_succ]
    clear w11 w12 w13 sT gT hat1 hat2 g1 g2 gp
    rw [hl] at ar1 ar2
    have oddA : ∀ {v : V} {d : PyData} {H' : Hp}, Oddy K H' (v, d) → Short v → arrB rows.length v = false → OddA K H' rows.length v := fun h1 h2 h3 => by
      obtain ⟨_, a, ha, _⟩ := h1
      exact ⟨a, ha, h2, h3⟩
    -- doors with one word
    walk_at "s"
    refine test_each (ks := [5, 6]) (y := .ref y) (x := bv) (z := .non) (v := bv) (f := "InvalidArrangement") (d := bd) (open_tup (fun Q q => ⟨by decide, fun T nT => q T nT⟩)) (by decide) (fun k => ev_var rfl) (fun k => ev_var rfl) (fun k => ev_c) (show 9 < 10 by decide) (ev_var rfl) (by decide) (by decide) (by decide) (fun k mk H' s => out_word F (w14.yd.1.same s) (oddA (firm1.same s) sh1 ar1) (by revert k; decide) (by revert k; decide)) (firm1.same (Same.refl _)).1 fun H15 s15 => ?_
    have w15 := w14.same s15
    have oW := oW.trans (Same.off s15)
    have firm1 := firm1.off (Same.off s15)
    have firm2 := firm2.off (Same.off s15)
    walk_at "s"
    refine test_each (ks := [7, 8, 9, 10, 11]) (y := .ref y) (x := bv) (z := wv) (v := bv) (f := "InvalidArrangement") (d := bd) (open_tup (fun Q q => ⟨by decide, fun T nT => q T nT⟩)) (by decide) (fun k => ev_var rfl) (fun k => ev_var rfl) (fun k => ev_var rfl) (show 9 < 10 by decide) (ev_var rfl) (by decide) (by decide) (by decide) (fun k mk H' s => out_word F (w15.yd.1.same s) (oddA (firm1.same s) sh1 ar1) (by revert k; decide) (by revert k; decide)) (firm1.same (Same.refl _)).1 fun H16 s16 => ?_
    have w16 := w15.same s16
    have oW := oW.trans (Same.off s16)
    have firm2 := firm2.off (Same.off s16)
    walk_at "s"
    refine test_each (ks := [7, 8, 9, 10, 11]) (y := .ref y) (x := .str (wd ds)) (z := wv) (v := wv) (f := "InvalidArrangement") (d := we) (open_tup (fun Q q => ⟨by decide, fun T nT => q T nT⟩)) (by decide) (fun k => ev_var rfl) (fun k => ev_var rfl) (fun k => ev_var rfl) (show 9 < 10 by decide) (ev_var rfl) (by decide) (by decide) (by decide) (fun k mk H' s => out_goal F (w16.yd.1.same s) arr (oddA (firm2.same s) sh2 ar2) (by revert k; decide) (by revert k; decide)) (firm2.same (Same.refl _)).1 fun H17 s17 => ?_
    have w17 := w16.same s17
    have oW := oW.trans (Same.off s17)
    clear w14 w15 w16 firm1 firm2 s15 s16 s17
    -- ways
    walk_at "s"
    walk_at "1"
    refine ⟨by decide, fun a3 n3 => ?_⟩
    have g3 : upd H17 a3 (.lst [.str "ab"]) a3 = some (.lst [.str "ab"]) := upd_same
    have s3 : Same H17 (upd H17 a3 (.lst [.str "ab"])) := same_new n3
    have nb4 := w17.box.ne n3
    have w18 := w17.same s3
    have oW := oW.trans (Same.off s3)
    generalize upd H17 a3 (.lst [.str "ab"]) = H18 at *
    refine ⟨by decide, fun p2 np2 => ?_⟩
    have s4 : Same H18 (upd H18 p2 (.lst [.non, .str "", .str "aa", .str "abc", .int 5, .str "AB", .ref a3, .str "ba "])) := same_new np2
    have gp : upd H18 p2 (.lst [.non, .str "", .str "aa", .str "abc", .int 5, .str "AB", .ref a3, .str "ba "]) p2 = some (.lst [.non, .str "", .str "aa", .str "abc", .int 5, .str "AB", .ref a3, .str "ba "]) := upd_same
    have nb5 := w18.box.ne np2
    have g3 := s4 _ _ g3
    have w19 := w18.same s4
    have oW := oW.trans (Same.off s4)
    generalize upd H18 p2 (.lst [.non, .str "", .str "aa", .str "abc", .int 5, .str "AB", .ref a3, .str "ba "]) = H19 at *
    refine drawn w19 (by omega) (by decide) (by decide) gp nb5 fun e3 H20 z0 z1 o20 w20 gp => ?_
    obtain ⟨kv, kd, hat3, firm, wy⟩ := odd_key (K := K) (b := b) (o20 _ _ nb4 g3) nb4 z0 z1
    have oW := oW.trans o20
    refine uIx_lst gp hat3 ?_
    have hS : Ses K y rows (Wo H2 b) H20 := w20.yd.ses (b := b) (low_prices hlo) (Wo.non (b := b) ny) (Wo.of oW)
    have pi20 := w20.pi
    clear w17 w18 w19 w20 s3 s4 g3 gp hat3 oW o20
    have keyW : ∀ {H' : Hp}, Oddy K H' (kv, kd) → ∃ a, Is K H' kv a ∧ isWy kv = false := fun h => by
      obtain ⟨_, a, ha, _⟩ := h
      exact ⟨a, ha, wy⟩
    walk_at "s"
    refine test_one (i := 1) (y := .ref y) (x := kv) (z := .non) (v := kv) (f := "InvalidWay") (d := kd) ev_c (ev_var rfl) (ev_var rfl) ev_c (ev_var rfl) (by decide) (by decide) (by decide) (out_way1 hS.k (keyW (firm.same (Same.refl _)))) (firm.same (Same.refl _)).1 fun H21 s21 => ⟨_, rfl, ?_⟩
    (simp only [Bool.false_eq_true, if_false])
    have hS := hS.same s21
    have firm := firm.off (Same.off s21)
    have pi21 := pi20.off (Same.off s21)
    refine test_non (i := 4) (y := .ref y) (x := .non) (z := kv) (f := "InvalidPaper") ev_c (ev_var rfl) ev_c (ev_var rfl) (by decide) (by decide) (by decide) (out_pap4 hS.k (.inl rfl)) fun H22 s22 => ⟨_, rfl, ?_⟩
    (simp only [Bool.false_eq_true, if_false])
    have hS := hS.same s22
    have firm := firm.off (Same.off s22)
    have pi22 := pi21.off (Same.off s22)
    -- its own tables are a paper
    simp only [tNext]
    walk_at "s"
    walk_at "1"
    refine .inr ⟨y, rows, rfl, hS.k, fun l H23 H24 m23 k23 ⟨a, yr⟩ s24 tb => ?_⟩
    have hS24 := (hS.mild m23 k23).same s24
    have yr24 := yr.same s24
    have fl24 : Flb b H22 H24 := fun c o _ n z => s24 _ _ (m23.fl c o n z)
    have firm : Firm K b H24 (kv, kd) := fun H' f => firm H' (fl24.trans f)
    have pi24 := pi22.flb fl24
    refine ⟨4, _, _, rfl, by decide, out_way4 hS24.k (own_lv tb) (fun H' m => keyW (firm.same (m.sm a yr24))), (fun _ z => z.elim), fun g w H25 rx => ?_⟩
    obtain ⟨rfl, rfl, H', mm, kk, ss⟩ := rx
    have s25 := (mm.sm a yr24).trans ss
    refine ⟨by decide, kd, (firm.same s25).1.t, fun l2 H26 s26 nl2 hl2 => ?_⟩
    have fit := (firm.same (s25.trans s26)).1
    refine ⟨w, kd, rfl, fit.t.1, fit.t.2.1, fit.t.2.2.1, fit.t.2.2.2, by decide, fun p3 np3 => ?_⟩
    have s27 : Same H26 (upd H26 p3 (.lst [.str "way", .str kd.shown])) := same_new np3
    have g27 : upd H26 p3 (.lst [.str "way", .str kd.shown]) p3 = some (.lst ([("way" : Str), kd.shown].map V.str)) := upd_same
    have gl2 : upd H26 p3 (.lst [.str "way", .str kd.shown]) l2 = some (.lst ([("way" : Str), kd.shown].map V.str)) := s27 _ _ hl2
    generalize upd H26 p3 (.lst [.str "way", .str kd.shown]) = H27 at *
    have ok := two_ok (show PyData.strOk "way" = true by decide +kernel) (ok_shown kd fit.f)
    refine ⟨_, _, dp_strs (.inl (.inl gl2)), dp_strs (.inl (.inl g27)), strs_shaped ok, strs_shaped ok, ?_⟩
    rw [SeqAt.eqv_refl _ (SeqAt.canLay_of_shaped (strs_shaped ok))]
    refine ⟨_, rfl, ?_⟩
    (try simp only [Bool.false_eq_true, if_false])
    try rw [if_neg (by decide)]
    have s := (s25.trans s26).trans s27
    have hS := hS24.same s
    have yr := yr24.same s
    have hp := pi24.off (Same.off s)
    clear firm hS24 yr24 pi24 fl24 tb gl2 g27 hl2 s25 s26 s27
    -- no paper
    try simp only [tNext]
    walk_at "s"
    refine test_non (i := 11) (y := .ref y) (x := .str (wd ds)) (z := .str (wd ds)) (f := "InvalidPaper") ev_c (ev_var rfl) (ev_var rfl) (ev_var rfl) (by decide) (by decide) (by decide) (out_pap11 F hS.k.1 arr arr) fun H28 s28 => ⟨_, rfl, ?_⟩
    (simp only [Bool.false_eq_true, if_false])
    have hS := hS.same s28
    have yr := yr.same s28
    have hp := hp.off (Same.off s28)
    -- what is fine
    try simp only [tNext]
    walk_at "s"
    refine test_fine (ks := [0, 2, 3]) (open_tup (fun Q q => ⟨by decide, fun T nT => q T nT⟩)) (by decide) (fun k => ev_var rfl) (fun k => ev_c) (fun k => ev_c) (show 9 < 10 by decide) (by decide) hS.k yr fun H31 s => ?_
    have hS := hS.same s
    have hp := hp.off (Same.off s)
    try simp only [tNext]
    walk_at "1"
    refine ⟨y, rows, ds, rfl, hS.k, arr, fun H32 s32 => ⟨true, rfl, ?_⟩⟩
    rw [if_pos rfl]
    have hS := hS.same s32
    have hp := hp.off (Same.off s32)
    simp only [tMeth]
    walk_at "1"
    obtain ⟨yd, _, dx, t, rk, gy, _⟩ := id hS.k
    refine ⟨y, dx, _, rfl, gy, rfl, y, rows, rfl, yd, fun l' ls' H33 s33 _ g33 r33 _ _ _ => ?_⟩
    have hp := hp.off (Same.off s33)
    refine eq_gr (r1 := rows) (r2 := rows) ⟨ls', .inl (.inl g33), r33.1, fun k d r z1 z2 => .inl (.inl (r33.2 k d r z1 z2))⟩ ⟨as, .inl (.inl hp.1), hp.2.2.1, fun k d r z1 z2 => .inl (.inl (hp.2.2.2.2 k d r z1 z2).1)⟩ ?_
    rw [decide_eq_true rfl]
    exact q H33 (hS.same s33).s
end
end U
namespace U
open PySem PySem.Spec PyProof.Rows L2

def t_law (K : PySem.W.Frag) (E : XK) : TS := (tSeq (tFor (iRng1 (tCons (tCB uMax2 (tCons (tC (.int 2)) (tCons (tCB uMin2 (tCons (tC (.int 4)) (tCons (tCB (uLen K) (tCons (tVar 0) tNil)) tNil))) tNil))) tNil)) (gName 1) (tIfS (tNot (tB (tFn (sp__law_right K) E (tCons (tFn (sp__law_bag K) E (tCons (tFn (sp__law_cell K) E (tCons (tVar 0) (tCons (tVar 1) tNil))) tNil)) tNil)))) (tRet (tC (.bl false))) tNext)) (tRet (tC (.bl true))))
section
variable {K : PySem.W.Frag} (F : KF K) {vs : List V} {H H' : Hp} {Q : VK} {E : XK}
local macro_rules | `(tactic| walk_at "w") => `(tactic| try simp only [turnE, lcT, Snoc, tRet, tRetN, tAndV, tOrV, tNotV, tCB, tCons, tVar, tNil, tC, tOp, tSeq, tAsg, gName, gSub, tIfS, tDrop, tFn, tTup, tLst, tNext, tB, tTest, tNot, tAnd, tOr, tIf, tChain, tUn, rU, tFld, tPart, tNoPart, L2.tSl, tBM, tPar, tPar3, tTruth, tDNewK,
  L2.start, List.map_cons, List.map_nil, List.length_cons, List.length_nil, List.replicate_succ, List.replicate_zero, List.append_nil, List.nil_append, List.cons_append, List.singleton_append, Nat.sub_self, Nat.zero_add, Nat.reduceAdd, Nat.reduceSub,
  List.getElem?_cons_zero, List.getElem?_cons_succ, List.set_cons_zero, List.set_cons_succ, Option.some.injEq, exists_eq_left, exists_eq_left', V.int.injEq, V.bl.injEq, V.str.injEq, V.ref.injEq,
  uAdd_int, uAdd_str, uSub_int, uMul_int, uMul_str, uDiv_int, uMod_int, uPow_int, uLt_int, uLe_int, uGt_int, uGe_int, uIs_non, uNis_non, uIs_bl, uNis_bl, sp1, sp2, sp3, sp4, uEq_int, uEq_str, uNe_int, uNe_str, uSl_str, uLen_str, decide_eq_true_eq])
local macro_rules | `(tactic| walk_at "1") => `(tactic| try simp only [turnE, lcT, Snoc, tRet, tRetN, tAndV, tOrV, tNotV, tCB, tCons, tVar, tNil, tC, tOp, tAsg, gName, gSub, tIfS, tDrop, tFn, tTup, tLst, tNext, tB, tTest, tNot, tAnd, tOr, tIf, tChain, tUn, rU, tFld, tPart, tNoPart, L2.tSl, tBM, tPar, tPar3, tTruth, tDNewK,
  L2.start, List.map_cons, List.map_nil, List.length_cons, List.length_nil, List.replicate_succ, List.replicate_zero, List.append_nil, List.nil_append, List.cons_append, List.singleton_append, Nat.sub_self, Nat.zero_add, Nat.reduceAdd, Nat.reduceSub,
  List.getElem?_cons_zero, List.getElem?_cons_succ, List.set_cons_zero, List.set_cons_succ, Option.some.injEq, exists_eq_left, exists_eq_left', V.int.injEq, V.bl.injEq, V.str.injEq, V.ref.injEq,
  uAdd_int, uAdd_str, uSub_int, uMul_int, uMul_str, uDiv_int, uMod_int, uPow_int, uLt_int, uLe_int, uGt_int, uGe_int, uIs_non, uNis_non, uIs_bl, uNis_bl, sp1, sp2, sp3, sp4, uEq_int, uEq_str, uNe_int, uNe_str, uSl_str, uLen_str, decide_eq_true_eq])
local macro_rules | `(tactic| walk_at "s") => `(tactic| ((try dsimp only [turnE]); with_reducible refine seq_ ?_))

include F in
theorem read_law (h : sp_law0 K vs H Q E) : t_law K E { nx := fun _ H' => Q .non H', rt := Q } (start ["_law_script", "_law_k"] vs) H := by
  match vs, h with
  | [_], ⟨a, ns, rfl, hs, q⟩ =>
    unfold t_law
    walk_at "s"
    obtain ⟨N, hN6, hN⟩ := most_of (ns.map V.int).length 4 (by decide)
    refine for_rng1 (n := N) (fun R r => by
      walk_at "1"
      refine uLen_seq (.inl hs) ⟨_, _, rfl, ⟨_, _, rfl, ?_⟩⟩
      show R [.int _] H
      rw [hN]
      exact r) (by omega) (fun i σ H' => Same H H' ∧ ∃ x1, σ = [some (.ref a), x1]) ⟨Same.refl H, _, rfl⟩ ?_ ?_
    · rintro i σ H0 hi ⟨s0, x1, rfl⟩
      simp only [gName, List.set_cons_zero, List.set_cons_succ]
      walk_at "1"
      refine ⟨a, ns, i, rfl, rfl, Same.seq s0 hs, by omega, by omega, fun c H1 s1 => ?_⟩
      refine ⟨c, rfl, fun b H2 hb0 s2 hb => ?_⟩
      have s02 := s0.trans (s1.trans s2)
      have nb := (s0.trans s1).free hb0
      refine ⟨b, 0, rfl, hb, by decide, fun H3 o3 => ⟨true, rfl, ?_⟩⟩
      rw [if_neg (by decide)]
      exact ⟨(Off.trans (Same.off s02) o3).same nb, _, rfl⟩
    · rintro σ H0 ⟨s0, x1, rfl⟩
      walk_at "1"
      exact q H0
end
end U
namespace U
open PySem PySem.Spec PyProof.Rows L2

theorem krB_ok {K : PySem.W.Frag} (h : krB K = true) : KR K := by
  unfold krB at h
  simp only [decide_eq_true_eq, Bool.and_eq_true] at h
  obtain ⟨h1, h2, h3, h4, h5, h6⟩ := h
  exact ⟨He.cls_ok h1, He.noat_ok h2, He.noat_ok h3, He.noat_ok h4, He.noat_ok h5, h6⟩
theorem sp5_len {f : V → V → V → V → V → Hp → VK → XK → Prop} {a b c d e : Str} : ∀ vs H Q E, sp_both_lines.sp5' f vs H Q E → vs.length = ([a, b, c, d, e] : List Str).length := fun vs H Q E h => match vs, h with
  | [_, _, _, _, _], _ => rfl
end U
namespace U
open PySem PySem.Spec PyProof.Rows L2
abbrev n__law_bag : List Str := ["_law_cell_here"]
theorem sc__law_bag : FnScope n__law_bag ["_law_cell_here"] (defScope s__law_bag) := ⟨rfl, rfl, rfl, by decide +kernel, rfl, by decide +kernel, by decide +kernel⟩
abbrev n__law_cell : List Str := ["_law_script", "_law_k", "_law_spare"]
theorem sc__law_cell : FnScope n__law_cell ["_law_script", "_law_k"] (defScope s__law_cell) := ⟨rfl, rfl, rfl, by decide +kernel, rfl, by decide +kernel, by decide +kernel⟩
abbrev n_Yard_rows : List Str := ["self", "row"]
theorem sc_Yard_rows : FnScope n_Yard_rows ["self"] (defScope s_Yard_rows) := ⟨rfl, rfl, rfl, by decide +kernel, rfl, by decide +kernel, by decide +kernel⟩
abbrev n_turned : List Str := ["six", "ab", "ac", "ba", "bc", "ca", "cb"]
theorem sc_turned : FnScope n_turned ["six"] (defScope s_turned) := ⟨rfl, rfl, rfl, by decide +kernel, rfl, by decide +kernel, by decide +kernel⟩
abbrev n_Reckoning_init : List Str := ["self", "bound", "prices", "towers"]
theorem sc_Reckoning_init : FnScope n_Reckoning_init ["self", "bound", "prices", "towers"] (defScope s_Reckoning_init) := ⟨rfl, rfl, rfl, by decide +kernel, rfl, by decide +kernel, by decide +kernel⟩
abbrev n_Reckoning_backwards : List Str := ["self", "prices", "six"]
theorem sc_Reckoning_backwards : FnScope n_Reckoning_backwards ["self"] (defScope s_Reckoning_backwards) := ⟨rfl, rfl, rfl, by decide +kernel, rfl, by decide +kernel, by decide +kernel⟩
abbrev n__from_place : List Str := ["place", "prices", "towers", "below", "ab", "ac", "ba", "bc", "ca", "cb", "price_ab", "price_ac", "price_ba", "price_bc", "price_ca", "price_cb", "to_a", "to_b", "to_c"]
theorem sc__from_place : FnScope n__from_place ["place", "prices", "towers", "below"] (defScope s__from_place) := ⟨rfl, rfl, rfl, by decide +kernel, rfl, by decide +kernel, by decide +kernel⟩
abbrev n_to_towers_above : List Str := ["places", "prices", "towers", "below", "ones", "place", "costs"]
theorem sc_to_towers_above : FnScope n_to_towers_above ["places", "prices", "towers", "below"] (defScope s_to_towers_above) := ⟨rfl, rfl, rfl, by decide +kernel, rfl, by decide +kernel, by decide +kernel⟩
abbrev n_Reckoning_to_towers : List Str := ["self", "starts", "levels", "places", "prices", "towers"]
theorem sc_Reckoning_to_towers : FnScope n_Reckoning_to_towers ["self", "starts"] (defScope s_Reckoning_to_towers) := ⟨rfl, rfl, rfl, by decide +kernel, rfl, by decide +kernel, by decide +kernel⟩
abbrev n_Reckoning_from_towers : List Str := ["self", "goals"]
theorem sc_Reckoning_from_towers : FnScope n_Reckoning_from_towers ["self", "goals"] (defScope s_Reckoning_from_towers) := ⟨rfl, rfl, rfl, by decide +kernel, rfl, by decide +kernel, by decide +kernel⟩
abbrev n_Reckoning_named : List Str := ["self", "names", "numbers", "bound", "name", "number"]
theorem sc_Reckoning_named : FnScope n_Reckoning_named ["self", "names", "numbers"] (defScope s_Reckoning_named) := ⟨rfl, rfl, rfl, by decide +kernel, rfl, by decide +kernel, by decide +kernel⟩
abbrev n_towers_above : List Str := ["prices", "below", "ab", "ac", "ba", "bc", "ca", "cb", "price_ab", "price_ac", "price_ba", "price_bc", "price_ca", "price_cb"]
theorem sc_towers_above : FnScope n_towers_above ["prices", "below"] (defScope s_towers_above) := ⟨rfl, rfl, rfl, by decide +kernel, rfl, by decide +kernel, by decide +kernel⟩
abbrev n_without_bars : List Str := ["rows", "bound", "row", "price"]
theorem sc_without_bars : FnScope n_without_bars ["rows", "bound"] (defScope s_without_bars) := ⟨rfl, rfl, rfl, by decide +kernel, rfl, by decide +kernel, by decide +kernel⟩
abbrev n_reckoning_of : List Str := ["rows", "greatest", "bound", "prices", "towers", "six", "row", "price"]
theorem sc_reckoning_of : FnScope n_reckoning_of ["rows"] (defScope s_reckoning_of) := ⟨rfl, rfl, rfl, by decide +kernel, rfl, by decide +kernel, by decide +kernel⟩
abbrev n_Yard_reckoning : List Str := ["self"]
theorem sc_Yard_reckoning : FnScope n_Yard_reckoning ["self"] (defScope s_Yard_reckoning) := ⟨rfl, rfl, rfl, by decide +kernel, rfl, by decide +kernel, by decide +kernel⟩
abbrev n_Yard_len : List Str := ["self"]
theorem sc_Yard_len : FnScope n_Yard_len ["self"] (defScope s_Yard_len) := ⟨rfl, rfl, rfl, by decide +kernel, rfl, by decide +kernel, by decide +kernel⟩
abbrev n_check_yard : List Str := ["yard"]
theorem sc_check_yard : FnScope n_check_yard ["yard"] (defScope s_check_yard) := ⟨rfl, rfl, rfl, by decide +kernel, rfl, by decide +kernel, by decide +kernel⟩
abbrev n_is_arrangement : List Str := ["yard", "value"]
theorem sc_is_arrangement : FnScope n_is_arrangement ["yard", "value"] (defScope s_is_arrangement) := ⟨rfl, rfl, rfl, by decide +kernel, rfl, by decide +kernel, by decide +kernel⟩
abbrev n_check_arrangement : List Str := ["yard", "arrangement"]
theorem sc_check_arrangement : FnScope n_check_arrangement ["yard", "arrangement"] (defScope s_check_arrangement) := ⟨rfl, rfl, rfl, by decide +kernel, rfl, by decide +kernel, by decide +kernel⟩
abbrev n_from_towers : List Str := ["yard", "goal", "reckoning"]
theorem sc_from_towers : FnScope n_from_towers ["yard", "goal"] (defScope s_from_towers) := ⟨rfl, rfl, rfl, by decide +kernel, rfl, by decide +kernel, by decide +kernel⟩
abbrev n__is_level : List Str := ["value", "names", "costs", "name", "cost"]
theorem sc__is_level : FnScope n__is_level ["value", "names"] (defScope s__is_level) := ⟨rfl, rfl, rfl, by decide +kernel, rfl, by decide +kernel, by decide +kernel⟩
abbrev n_are_levels : List Str := ["value", "count", "names", "level", "name"]
theorem sc_are_levels : FnScope n_are_levels ["value", "count", "names"] (defScope s_are_levels) := ⟨rfl, rfl, rfl, by decide +kernel, rfl, by decide +kernel, by decide +kernel⟩
abbrev n_are_within : List Str := ["levels", "limits", "level", "line", "number", "limit"]
theorem sc_are_within : FnScope n_are_within ["levels", "limits"] (defScope s_are_within) := ⟨rfl, rfl, rfl, by decide +kernel, rfl, by decide +kernel, by decide +kernel⟩
abbrev n__are_within_sums : List Str := ["start", "prices", "towers", "levels", "place", "six", "table", "below"]
theorem sc__are_within_sums : FnScope n__are_within_sums ["start", "prices", "towers", "levels"] (defScope s__are_within_sums) := ⟨rfl, rfl, rfl, by decide +kernel, rfl, by decide +kernel, by decide +kernel⟩
abbrev n_bound_beyond : List Str := ["yard", "lists", "costs", "levels", "level", "cost"]
theorem sc_bound_beyond : FnScope n_bound_beyond ["yard", "lists"] (defScope s_bound_beyond) := ⟨rfl, rfl, rfl, by decide +kernel, rfl, by decide +kernel, by decide +kernel⟩
abbrev n_Yard_price_rows : List Str := ["self"]
theorem sc_Yard_price_rows : FnScope n_Yard_price_rows ["self"] (defScope s_Yard_price_rows) := ⟨rfl, rfl, rfl, by decide +kernel, rfl, by decide +kernel, by decide +kernel⟩
abbrev n_bounded_prices : List Str := ["yard", "bound"]
theorem sc_bounded_prices : FnScope n_bounded_prices ["yard", "bound"] (defScope s_bounded_prices) := ⟨rfl, rfl, rfl, by decide +kernel, rfl, by decide +kernel, by decide +kernel⟩
abbrev n_numbers_of : List Str := ["levels", "names", "bound", "level", "name"]
theorem sc_numbers_of : FnScope n_numbers_of ["levels", "names", "bound"] (defScope s_numbers_of) := ⟨rfl, rfl, rfl, by decide +kernel, rfl, by decide +kernel, by decide +kernel⟩
abbrev n_are_within_lines_costs : List Str := ["yard", "start", "goal", "paper", "bound", "prices", "towers", "prices_back", "towers_back", "six"]
theorem sc_are_within_lines_costs : FnScope n_are_within_lines_costs ["yard", "start", "goal", "paper"] (defScope s_are_within_lines_costs) := ⟨rfl, rfl, rfl, by decide +kernel, rfl, by decide +kernel, by decide +kernel⟩
abbrev n_check_both : List Str := ["yard", "start", "goal"]
theorem sc_check_both : FnScope n_check_both ["yard", "start", "goal"] (defScope s_check_both) := ⟨rfl, rfl, rfl, by decide +kernel, rfl, by decide +kernel, by decide +kernel⟩
abbrev n_are_within_lines_levels : List Str := ["yard", "paper", "bound", "levels", "prices", "six", "below"]
theorem sc_are_within_lines_levels : FnScope n_are_within_lines_levels ["yard", "paper"] (defScope s_are_within_lines_levels) := ⟨rfl, rfl, rfl, by decide +kernel, rfl, by decide +kernel, by decide +kernel⟩
abbrev n_is_paper : List Str := ["yard", "value"]
theorem sc_is_paper : FnScope n_is_paper ["yard", "value"] (defScope s_is_paper) := ⟨rfl, rfl, rfl, by decide +kernel, rfl, by decide +kernel, by decide +kernel⟩
abbrev n_is_cost_paper : List Str := ["yard", "start", "goal", "value"]
theorem sc_is_cost_paper : FnScope n_is_cost_paper ["yard", "start", "goal", "value"] (defScope s_is_cost_paper) := ⟨rfl, rfl, rfl, by decide +kernel, rfl, by decide +kernel, by decide +kernel⟩
abbrev n_first_apart : List Str := ["starts", "goals", "crate", "places", "place"]
theorem sc_first_apart : FnScope n_first_apart ["starts", "goals"] (defScope s_first_apart) := ⟨rfl, rfl, rfl, by decide +kernel, rfl, by decide +kernel, by decide +kernel⟩
abbrev n_largest_moving : List Str := ["yard", "start", "goal"]
theorem sc_largest_moving : FnScope n_largest_moving ["yard", "start", "goal"] (defScope s_largest_moving) := ⟨rfl, rfl, rfl, by decide +kernel, rfl, by decide +kernel, by decide +kernel⟩
abbrev n_both_lines : List Str := ["way", "prices", "towers", "to_towers", "from_towers", "straight", "first", "second", "back", "here", "there", "over"]
theorem sc_both_lines : FnScope n_both_lines ["way", "prices", "towers", "to_towers", "from_towers"] (defScope s_both_lines) := ⟨rfl, rfl, rfl, by decide +kernel, rfl, by decide +kernel, by decide +kernel⟩
abbrev n_Reckoning_cheapest : List Str := ["self", "starts", "goals", "crate", "rest", "prices", "towers", "to_towers", "from_towers", "here", "there"]
theorem sc_Reckoning_cheapest : FnScope n_Reckoning_cheapest ["self", "starts", "goals"] (defScope s_Reckoning_cheapest) := ⟨rfl, rfl, rfl, by decide +kernel, rfl, by decide +kernel, by decide +kernel⟩
abbrev n_Reckoning_told : List Str := ["self", "number"]
theorem sc_Reckoning_told : FnScope n_Reckoning_told ["self", "number"] (defScope s_Reckoning_told) := ⟨rfl, rfl, rfl, by decide +kernel, rfl, by decide +kernel, by decide +kernel⟩
abbrev n_least : List Str := ["yard", "start", "goal", "reckoning"]
theorem sc_least : FnScope n_least ["yard", "start", "goal"] (defScope s_least) := ⟨rfl, rfl, rfl, by decide +kernel, rfl, by decide +kernel, by decide +kernel⟩
abbrev n_paper : List Str := ["yard", "start", "goal", "reckoning", "towers", "level"]
theorem sc_paper : FnScope n_paper ["yard", "start", "goal"] (defScope s_paper) := ⟨rfl, rfl, rfl, by decide +kernel, rfl, by decide +kernel, by decide +kernel⟩
abbrev n_from_each_tower : List Str := ["towers", "ab", "ac", "ba", "bc", "ca", "cb"]
theorem sc_from_each_tower : FnScope n_from_each_tower ["towers"] (defScope s_from_each_tower) := ⟨rfl, rfl, rfl, by decide +kernel, rfl, by decide +kernel, by decide +kernel⟩
abbrev n__straight_ways : List Str := ["prices", "towers", "bound", "to_towers", "from_towers", "ways", "way", "straight", "turning"]
theorem sc__straight_ways : FnScope n__straight_ways ["prices", "towers", "bound"] (defScope s__straight_ways) := ⟨rfl, rfl, rfl, by decide +kernel, rfl, by decide +kernel, by decide +kernel⟩
abbrev n_straight_ways : List Str := ["yard", "reckoning", "ways", "prices", "towers"]
theorem sc_straight_ways : FnScope n_straight_ways ["yard"] (defScope s_straight_ways) := ⟨rfl, rfl, rfl, by decide +kernel, rfl, by decide +kernel, by decide +kernel⟩
abbrev n_tables : List Str := ["yard", "reckoning", "towers"]
theorem sc_tables : FnScope n_tables ["yard"] (defScope s_tables) := ⟨rfl, rfl, rfl, by decide +kernel, rfl, by decide +kernel, by decide +kernel⟩
abbrev n_to_towers : List Str := ["yard", "start", "reckoning"]
theorem sc_to_towers : FnScope n_to_towers ["yard", "start"] (defScope s_to_towers) := ⟨rfl, rfl, rfl, by decide +kernel, rfl, by decide +kernel, by decide +kernel⟩
abbrev n_is_way : List Str := ["value"]
theorem sc_is_way : FnScope n_is_way ["value"] (defScope s_is_way) := ⟨rfl, rfl, rfl, by decide +kernel, rfl, by decide +kernel, by decide +kernel⟩
abbrev n_check_way : List Str := ["way"]
theorem sc_check_way : FnScope n_check_way ["way"] (defScope s_check_way) := ⟨rfl, rfl, rfl, by decide +kernel, rfl, by decide +kernel, by decide +kernel⟩
abbrev n_told_cost : List Str := ["yard", "paper", "way"]
theorem sc_told_cost : FnScope n_told_cost ["yard", "paper", "way"] (defScope s_told_cost) := ⟨rfl, rfl, rfl, by decide +kernel, rfl, by decide +kernel, by decide +kernel⟩
abbrev n_tower_cost : List Str := ["yard", "way", "reckoning"]
theorem sc_tower_cost : FnScope n_tower_cost ["yard", "way"] (defScope s_tower_cost) := ⟨rfl, rfl, rfl, by decide +kernel, rfl, by decide +kernel, by decide +kernel⟩
abbrev n__law_asked : List Str := ["_law_way", "_law_yard", "_law_one", "_law_two"]
theorem sc__law_asked : FnScope n__law_asked ["_law_way", "_law_yard", "_law_one", "_law_two"] (defScope s__law_asked) := ⟨rfl, rfl, rfl, by decide +kernel, rfl, by decide +kernel, by decide +kernel⟩
abbrev n_shown_cost : List Str := ["yard", "start", "goal", "paper", "crate", "rest", "bound", "prices", "towers", "from_start", "to_goal", "cost"]
theorem sc_shown_cost : FnScope n_shown_cost ["yard", "start", "goal", "paper"] (defScope s_shown_cost) := ⟨rfl, rfl, rfl, by decide +kernel, rfl, by decide +kernel, by decide +kernel⟩
abbrev n__law_caught : List Str := ["_law_way", "_law_yard", "_law_one", "_law_two", "e", "_law_kinds"]
theorem sc__law_caught : FnScope n__law_caught ["_law_way", "_law_yard", "_law_one", "_law_two"] (defScope s__law_caught) := ⟨rfl, rfl, rfl, by decide +kernel, rfl, by decide +kernel, by decide +kernel⟩
abbrev n__law_take : List Str := ["_law_bag_here", "_law_limit", "_law_digit", "_law_mixed"]
theorem sc__law_take : FnScope n__law_take ["_law_bag_here", "_law_limit"] (defScope s__law_take) := ⟨rfl, rfl, rfl, by decide +kernel, rfl, by decide +kernel, by decide +kernel⟩
abbrev n__law_rows : List Str := ["_law_bag_here", "_law_most", "_law_kind", "_law_bars", "_law_found", "_law_crate", "_law_line", "_law_way", "_law_price"]
theorem sc__law_rows : FnScope n__law_rows ["_law_bag_here", "_law_most"] (defScope s__law_rows) := ⟨rfl, rfl, rfl, by decide +kernel, rfl, by decide +kernel, by decide +kernel⟩
abbrev n__law_very_right : List Str := ["_law_yard", "_law_word_here", "_law_way", "_law_bad", "e"]
theorem sc__law_very_right : FnScope n__law_very_right ["_law_yard", "_law_word_here"] (defScope s__law_very_right) := ⟨rfl, rfl, rfl, by decide +kernel, rfl, by decide +kernel, by decide +kernel⟩
abbrev n__law_word : List Str := ["_law_bag_here", "_law_count", "_law_crate"]
theorem sc__law_word : FnScope n__law_word ["_law_bag_here", "_law_count"] (defScope s__law_word) := ⟨rfl, rfl, rfl, by decide +kernel, rfl, by decide +kernel, by decide +kernel⟩
abbrev n_is_integer : List Str := ["value"]
theorem sc_is_integer : FnScope n_is_integer ["value"] (defScope s_is_integer) := ⟨rfl, rfl, rfl, by decide +kernel, rfl, by decide +kernel, by decide +kernel⟩
abbrev n_is_price : List Str := ["value"]
theorem sc_is_price : FnScope n_is_price ["value"] (defScope s_is_price) := ⟨rfl, rfl, rfl, by decide +kernel, rfl, by decide +kernel, by decide +kernel⟩
abbrev n__is_price_row : List Str := ["value", "price"]
theorem sc__is_price_row : FnScope n__is_price_row ["value"] (defScope s__is_price_row) := ⟨rfl, rfl, rfl, by decide +kernel, rfl, by decide +kernel, by decide +kernel⟩
abbrev n__are_rows : List Str := ["value", "row"]
theorem sc__are_rows : FnScope n__are_rows ["value"] (defScope s__are_rows) := ⟨rfl, rfl, rfl, by decide +kernel, rfl, by decide +kernel, by decide +kernel⟩
abbrev n_Yard_init : List Str := ["self", "rows", "row"]
theorem sc_Yard_init : FnScope n_Yard_init ["self", "rows"] (defScope s_Yard_init) := ⟨rfl, rfl, rfl, by decide +kernel, rfl, by decide +kernel, by decide +kernel⟩
abbrev n__law_right : List Str := ["_law_bag_here", "_law_rows_here", "_law_yard", "_law_word_here", "_law_odd", "_law_words", "_law_bad", "_law_worse", "_law_key", "_law_way"]
theorem sc__law_right : FnScope n__law_right ["_law_bag_here"] (defScope s__law_right) := ⟨rfl, rfl, rfl, by decide +kernel, rfl, by decide +kernel, by decide +kernel⟩
abbrev n_law : List Str := ["_law_script", "_law_k"]
theorem sc_law : FnScope n_law ["_law_script"] (defScope s_law) := ⟨rfl, rfl, rfl, by decide +kernel, rfl, by decide +kernel, by decide +kernel⟩
structure Ct (K : PySem.W.Frag) (w : World) (mg : Str → Option Value) : Prop where
  says : He5.SaysA fa fn K
  F : KF K
  ks : KS K
  xf : XF K "CratesError" excN
  kr : KR K
  g_COLUMNS : mg "COLUMNS" = some (.ref (He.ga K "COLUMNS"))
  g_CratesError : mg "CratesError" = some (.ref (He.ga K "CratesError"))
  g_InvalidArrangement : mg "InvalidArrangement" = some (.ref (He.ga K "InvalidArrangement"))
  g_InvalidPaper : mg "InvalidPaper" = some (.ref (He.ga K "InvalidPaper"))
  g_InvalidWay : mg "InvalidWay" = some (.ref (He.ga K "InvalidWay"))
  g_InvalidYard : mg "InvalidYard" = some (.ref (He.ga K "InvalidYard"))
  g_PLACES : mg "PLACES" = some (.ref (He.ga K "PLACES"))
  g_Reckoning : mg "Reckoning" = some (.ref (He.ga K "Reckoning"))
  g_WAYS : mg "WAYS" = some (.ref (He.ga K "WAYS"))
  g_Yard : mg "Yard" = some (.ref (He.ga K "Yard"))
  g__TURNS : mg "_TURNS" = some (.ref (He.ga K "_TURNS"))
  g__are_rows : mg "_are_rows" = some (.ref (He.ga K "_are_rows"))
  g__are_within_sums : mg "_are_within_sums" = some (.ref (He.ga K "_are_within_sums"))
  g__from_place : mg "_from_place" = some (.ref (He.ga K "_from_place"))
  g__is_level : mg "_is_level" = some (.ref (He.ga K "_is_level"))
  g__is_price_row : mg "_is_price_row" = some (.ref (He.ga K "_is_price_row"))
  g__law_asked : mg "_law_asked" = some (.ref (He.ga K "_law_asked"))
  g__law_bag : mg "_law_bag" = some (.ref (He.ga K "_law_bag"))
  g__law_caught : mg "_law_caught" = some (.ref (He.ga K "_law_caught"))
  g__law_cell : mg "_law_cell" = some (.ref (He.ga K "_law_cell"))
  g__law_right : mg "_law_right" = some (.ref (He.ga K "_law_right"))
  g__law_rows : mg "_law_rows" = some (.ref (He.ga K "_law_rows"))
  g__law_take : mg "_law_take" = some (.ref (He.ga K "_law_take"))
  g__law_very_right : mg "_law_very_right" = some (.ref (He.ga K "_law_very_right"))
  g__law_word : mg "_law_word" = some (.ref (He.ga K "_law_word"))
  g__straight_ways : mg "_straight_ways" = some (.ref (He.ga K "_straight_ways"))
  g_are_levels : mg "are_levels" = some (.ref (He.ga K "are_levels"))
  g_are_within : mg "are_within" = some (.ref (He.ga K "are_within"))
  g_are_within_lines_costs : mg "are_within_lines_costs" = some (.ref (He.ga K "are_within_lines_costs"))
  g_are_within_lines_levels : mg "are_within_lines_levels" = some (.ref (He.ga K "are_within_lines_levels"))
  g_both_lines : mg "both_lines" = some (.ref (He.ga K "both_lines"))
  g_bound_beyond : mg "bound_beyond" = some (.ref (He.ga K "bound_beyond"))
  g_bounded_prices : mg "bounded_prices" = some (.ref (He.ga K "bounded_prices"))
  g_check_arrangement : mg "check_arrangement" = some (.ref (He.ga K "check_arrangement"))
  g_check_both : mg "check_both" = some (.ref (He.ga K "check_both"))
  g_check_way : mg "check_way" = some (.ref (He.ga K "check_way"))
  g_check_yard : mg "check_yard" = some (.ref (He.ga K "check_yard"))
  g_first_apart : mg "first_apart" = some (.ref (He.ga K "first_apart"))
  g_from_each_tower : mg "from_each_tower" = some (.ref (He.ga K "from_each_tower"))
  g_from_towers : mg "from_towers" = some (.ref (He.ga K "from_towers"))
  g_is_arrangement : mg "is_arrangement" = some (.ref (He.ga K "is_arrangement"))
  g_is_cost_paper : mg "is_cost_paper" = some (.ref (He.ga K "is_cost_paper"))
  g_is_integer : mg "is_integer" = some (.ref (He.ga K "is_integer"))
  g_is_paper : mg "is_paper" = some (.ref (He.ga K "is_paper"))
  g_is_price : mg "is_price" = some (.ref (He.ga K "is_price"))
  g_is_way : mg "is_way" = some (.ref (He.ga K "is_way"))
  g_largest_moving : mg "largest_moving" = some (.ref (He.ga K "largest_moving"))
  g_law : mg "law" = some (.ref (He.ga K "law"))
  g_least : mg "least" = some (.ref (He.ga K "least"))
  g_numbers_of : mg "numbers_of" = some (.ref (He.ga K "numbers_of"))
  g_paper : mg "paper" = some (.ref (He.ga K "paper"))
  g_reckoning_of : mg "reckoning_of" = some (.ref (He.ga K "reckoning_of"))
  g_shown_cost : mg "shown_cost" = some (.ref (He.ga K "shown_cost"))
  g_straight_ways : mg "straight_ways" = some (.ref (He.ga K "straight_ways"))
  g_tables : mg "tables" = some (.ref (He.ga K "tables"))
  g_to_towers : mg "to_towers" = some (.ref (He.ga K "to_towers"))
  g_to_towers_above : mg "to_towers_above" = some (.ref (He.ga K "to_towers_above"))
  g_told_cost : mg "told_cost" = some (.ref (He.ga K "told_cost"))
  g_tower_cost : mg "tower_cost" = some (.ref (He.ga K "tower_cost"))
  g_towers_above : mg "towers_above" = some (.ref (He.ga K "towers_above"))
  g_turned : mg "turned" = some (.ref (He.ga K "turned"))
  g_without_bars : mg "without_bars" = some (.ref (He.ga K "without_bars"))
  int_MOST_CRATES : ∃ t, mg "MOST_CRATES" = some (.int 60 t)
  str__PLACE_SIGNS : ∃ t, mg "_PLACE_SIGNS" = some (.str "abc" t)
  n_all : mg "all" = none
  n_any : mg "any" = none
  n_bool : mg "bool" = none
  n_dict : mg "dict" = none
  n_enumerate : mg "enumerate" = none
  n_int : mg "int" = none
  n_isinstance : mg "isinstance" = none
  n_len : mg "len" = none
  n_list : mg "list" = none
  n_max : mg "max" = none
  n_min : mg "min" = none
  n_range : mg "range" = none
  n_repr : mg "repr" = none
  n_str : mg "str" = none
  n_tuple : mg "tuple" = none
  n_zip : mg "zip" = none
  mk_Yard : Mk K (He.ga K "Yard") (He.ma K (He.ga K "Yard") "__init__")
  mk_Reckoning : Mk K (He.ga K "Reckoning") (He.ma K (He.ga K "Reckoning") "__init__")
  m_Reckoning_init : Meth K (He.ga K "Reckoning") "__init__" (He.ma K (He.ga K "Reckoning") "__init__")
  m_Reckoning_backwards : Meth K (He.ga K "Reckoning") "backwards" (He.ma K (He.ga K "Reckoning") "backwards")
  m_Reckoning_to_towers : Meth K (He.ga K "Reckoning") "to_towers" (He.ma K (He.ga K "Reckoning") "to_towers")
  m_Reckoning_from_towers : Meth K (He.ga K "Reckoning") "from_towers" (He.ma K (He.ga K "Reckoning") "from_towers")
  m_Reckoning_cheapest : Meth K (He.ga K "Reckoning") "cheapest" (He.ma K (He.ga K "Reckoning") "cheapest")
  m_Reckoning_told : Meth K (He.ga K "Reckoning") "told" (He.ma K (He.ga K "Reckoning") "told")
  m_Reckoning_named : Meth K (He.ga K "Reckoning") "named" (He.ma K (He.ga K "Reckoning") "named")
  m_Yard_init : Meth K (He.ga K "Yard") "__init__" (He.ma K (He.ga K "Yard") "__init__")
  m_Yard_len : Meth K (He.ga K "Yard") "__len__" (He.ma K (He.ga K "Yard") "__len__")
  m_Yard_rows : Meth K (He.ga K "Yard") "rows" (He.ma K (He.ga K "Yard") "rows")
  m_Yard_price_rows : Meth K (He.ga K "Yard") "price_rows" (He.ma K (He.ga K "Yard") "price_rows")
  m_Yard_reckoning : Meth K (He.ga K "Yard") "reckoning" (He.ma K (He.ga K "Yard") "reckoning")
  x_InvalidArrangement : ExcT K "InvalidArrangement" "value"
  x_InvalidPaper : ExcT K "InvalidPaper" "value"
  x_InvalidWay : ExcT K "InvalidWay" "value"
  x_InvalidYard : ExcT K "InvalidYard" "value"
  t_COLUMNS : ColK K w
  t__TURNS : TuK K w
theorem ct_of {w : World} {K : PySem.W.Frag} {h : Heap} {mg : Str → Option Value} (X : K.In h) (G : h.Ns mainGlobals mg) (cc : He5.SaysA fa fn K ∧ tabsM ts K = keysM ts w) (e : ex K = true) : Ct K w mg := by
  have c := cc.1
  unfold ex at e
  simp only [Bool.and_eq_true, and_assoc] at e
  obtain ⟨e0, e_sys, e_xf, e_kr, e_tCOLUMNS, e_t_TURNS, e_InvalidArrangement, e_InvalidPaper, e_InvalidWay, e_InvalidYard⟩ := e
  exact ⟨c, kfB_ok e0, kS_ok e_sys, xF_ok e_xf, krB_ok e_kr, He.glo_ok X G (c.fact 0 (f := .glo "COLUMNS") rfl), He.glo_ok X G (c.fact 1 (f := .glo "CratesError") rfl), He.glo_ok X G (c.fact 2 (f := .glo "InvalidArrangement") rfl), He.glo_ok X G (c.fact 3 (f := .glo "InvalidPaper") rfl), He.glo_ok X G (c.fact 4 (f := .glo "InvalidWay") rfl), He.glo_ok X G (c.fact 5 (f := .glo "InvalidYard") rfl), He.glo_ok X G (c.fact 6 (f := .glo "PLACES") rfl), He.glo_ok X G (c.fact 7 (f := .glo "Reckoning") rfl), He.glo_ok X G (c.fact 8 (f := .glo "WAYS") rfl), He.glo_ok X G (c.fact 9 (f := .glo "Yard") rfl), He.glo_ok X G (c.fact 10 (f := .glo "_TURNS") rfl), He.glo_ok X G (c.fact 11 (f := .glo "_are_rows") rfl), He.glo_ok X G (c.fact 12 (f := .glo "_are_within_sums") rfl), He.glo_ok X G (c.fact 13 (f := .glo "_from_place") rfl), He.glo_ok X G (c.fact 14 (f := .glo "_is_level") rfl), He.glo_ok X G (c.fact 15 (f := .glo "_is_price_row") rfl), He.glo_ok X G (c.fact 16 (f := .glo "_law_asked") rfl), He.glo_ok X G (c.fact 17 (f := .glo "_law_bag") rfl), He.glo_ok X G (c.fact 18 (f := .glo "_law_caught") rfl), He.glo_ok X G (c.fact 19 (f := .glo "_law_cell") rfl), He.glo_ok X G (c.fact 20 (f := .glo "_law_right") rfl), He.glo_ok X G (c.fact 21 (f := .glo "_law_rows") rfl), He.glo_ok X G (c.fact 22 (f := .glo "_law_take") rfl), He.glo_ok X G (c.fact 23 (f := .glo "_law_very_right") rfl), He.glo_ok X G (c.fact 24 (f := .glo "_law_word") rfl), He.glo_ok X G (c.fact 25 (f := .glo "_straight_ways") rfl), He.glo_ok X G (c.fact 26 (f := .glo "are_levels") rfl), He.glo_ok X G (c.fact 27 (f := .glo "are_within") rfl), He.glo_ok X G (c.fact 28 (f := .glo "are_within_lines_costs") rfl), He.glo_ok X G (c.fact 29 (f := .glo "are_within_lines_levels") rfl), He.glo_ok X G (c.fact 30 (f := .glo "both_lines") rfl), He.glo_ok X G (c.fact 31 (f := .glo "bound_beyond") rfl), He.glo_ok X G (c.fact 32 (f := .glo "bounded_prices") rfl), He.glo_ok X G (c.fact 33 (f := .glo "check_arrangement") rfl), He.glo_ok X G (c.fact 34 (f := .glo "check_both") rfl), He.glo_ok X G (c.fact 35 (f := .glo "check_way") rfl), He.glo_ok X G (c.fact 36 (f := .glo "check_yard") rfl), He.glo_ok X G (c.fact 37 (f := .glo "first_apart") rfl), He.glo_ok X G (c.fact 38 (f := .glo "from_each_tower") rfl), He.glo_ok X G (c.fact 39 (f := .glo "from_towers") rfl), He.glo_ok X G (c.fact 40 (f := .glo "is_arrangement") rfl), He.glo_ok X G (c.fact 41 (f := .glo "is_cost_paper") rfl), He.glo_ok X G (c.fact 42 (f := .glo "is_integer") rfl), He.glo_ok X G (c.fact 43 (f := .glo "is_paper") rfl), He.glo_ok X G (c.fact 44 (f := .glo "is_price") rfl), He.glo_ok X G (c.fact 45 (f := .glo "is_way") rfl), He.glo_ok X G (c.fact 46 (f := .glo "largest_moving") rfl), He.glo_ok X G (c.fact 47 (f := .glo "law") rfl), He.glo_ok X G (c.fact 48 (f := .glo "least") rfl), He.glo_ok X G (c.fact 49 (f := .glo "numbers_of") rfl), He.glo_ok X G (c.fact 50 (f := .glo "paper") rfl), He.glo_ok X G (c.fact 51 (f := .glo "reckoning_of") rfl), He.glo_ok X G (c.fact 52 (f := .glo "shown_cost") rfl), He.glo_ok X G (c.fact 53 (f := .glo "straight_ways") rfl), He.glo_ok X G (c.fact 54 (f := .glo "tables") rfl), He.glo_ok X G (c.fact 55 (f := .glo "to_towers") rfl), He.glo_ok X G (c.fact 56 (f := .glo "to_towers_above") rfl), He.glo_ok X G (c.fact 57 (f := .glo "told_cost") rfl), He.glo_ok X G (c.fact 58 (f := .glo "tower_cost") rfl), He.glo_ok X G (c.fact 59 (f := .glo "towers_above") rfl), He.glo_ok X G (c.fact 60 (f := .glo "turned") rfl), He.glo_ok X G (c.fact 61 (f := .glo "without_bars") rfl), He.int_ok X G (c.fact 62 (f := .int "MOST_CRATES" 60) rfl), He.str_ok X G (c.fact 63 (f := .str "_PLACE_SIGNS" "abc") rfl), He.free_ok X G (c.fact 64 (f := .free "all") rfl), He.free_ok X G (c.fact 65 (f := .free "any") rfl), He.free_ok X G (c.fact 66 (f := .free "bool") rfl), He.free_ok X G (c.fact 67 (f := .free "dict") rfl), He.free_ok X G (c.fact 68 (f := .free "enumerate") rfl), He.free_ok X G (c.fact 69 (f := .free "int") rfl), He.free_ok X G (c.fact 70 (f := .free "isinstance") rfl), He.free_ok X G (c.fact 71 (f := .free "len") rfl), He.free_ok X G (c.fact 72 (f := .free "list") rfl), He.free_ok X G (c.fact 73 (f := .free "max") rfl), He.free_ok X G (c.fact 74 (f := .free "min") rfl), He.free_ok X G (c.fact 75 (f := .free "range") rfl), He.free_ok X G (c.fact 76 (f := .free "repr") rfl), He.free_ok X G (c.fact 77 (f := .free "str") rfl), He.free_ok X G (c.fact 78 (f := .free "tuple") rfl), He.free_ok X G (c.fact 79 (f := .free "zip") rfl), He.mkr_ok (c.fact 80 (f := .mkr "Yard") rfl), He.mkr_ok (c.fact 81 (f := .mkr "Reckoning") rfl), He.meth_ok (c.fact 82 (f := .meth "Reckoning" "__init__") rfl), He.meth_ok (c.fact 83 (f := .meth "Reckoning" "backwards") rfl), He.meth_ok (c.fact 84 (f := .meth "Reckoning" "to_towers") rfl), He.meth_ok (c.fact 85 (f := .meth "Reckoning" "from_towers") rfl), He.meth_ok (c.fact 86 (f := .meth "Reckoning" "cheapest") rfl), He.meth_ok (c.fact 87 (f := .meth "Reckoning" "told") rfl), He.meth_ok (c.fact 88 (f := .meth "Reckoning" "named") rfl), He.meth_ok (c.fact 89 (f := .meth "Yard" "__init__") rfl), He.meth_ok (c.fact 90 (f := .meth "Yard" "__len__") rfl), He.meth_ok (c.fact 91 (f := .meth "Yard" "rows") rfl), He.meth_ok (c.fact 92 (f := .meth "Yard" "price_rows") rfl), He.meth_ok (c.fact 93 (f := .meth "Yard" "reckoning") rfl), excB_ok e_InvalidArrangement, excB_ok e_InvalidPaper, excB_ok e_InvalidWay, excB_ok e_InvalidYard, colK_of (tabM cc.2 0) e_tCOLUMNS, tuK_of (tabM cc.2 1) e_t_TURNS⟩
section
variable {P : Program} {w : World} {K : PySem.W.Frag} {mg : Str → Option Value} {base : Heap}
theorem sc_InvalidArrangement_init : FnScope ["self", "value"] ["self", "value"] (defScope s_InvalidArrangement_init) := ⟨rfl, rfl, rfl, by decide +kernel, rfl, by decide +kernel, by decide +kernel⟩
theorem okx_InvalidArrangement (C : Ct K w mg) : GoodX P w K mg base "InvalidArrangement" "value" := by
  obtain ⟨fd, F⟩ := C.says.def_ 1 (d := d_InvalidArrangement_init) rfl
  exact ⟨⟨fd, F.ok sc_InvalidArrangement_init (fun vs H Q E h => spExcI_len vs H Q E h) (fun cdv A outer s H vs Q E hr h => ⟨_, pss_one (ps_ost (pv 0) (pv 1)), read_excI C.x_InvalidArrangement h⟩), F.bindsN fun _ _ _ _ _ _ us hl => match us, hl with | [_, _], _ => rfl⟩, C.x_InvalidArrangement, C.g_InvalidArrangement⟩
theorem sc_InvalidPaper_init : FnScope ["self", "value"] ["self", "value"] (defScope s_InvalidPaper_init) := ⟨rfl, rfl, rfl, by decide +kernel, rfl, by decide +kernel, by decide +kernel⟩
theorem okx_InvalidPaper (C : Ct K w mg) : GoodX P w K mg base "InvalidPaper" "value" := by
  obtain ⟨fd, F⟩ := C.says.def_ 3 (d := d_InvalidPaper_init) rfl
  exact ⟨⟨fd, F.ok sc_InvalidPaper_init (fun vs H Q E h => spExcI_len vs H Q E h) (fun cdv A outer s H vs Q E hr h => ⟨_, pss_one (ps_ost (pv 0) (pv 1)), read_excI C.x_InvalidPaper h⟩), F.bindsN fun _ _ _ _ _ _ us hl => match us, hl with | [_, _], _ => rfl⟩, C.x_InvalidPaper, C.g_InvalidPaper⟩
theorem sc_InvalidWay_init : FnScope ["self", "value"] ["self", "value"] (defScope s_InvalidWay_init) := ⟨rfl, rfl, rfl, by decide +kernel, rfl, by decide +kernel, by decide +kernel⟩
theorem okx_InvalidWay (C : Ct K w mg) : GoodX P w K mg base "InvalidWay" "value" := by
  obtain ⟨fd, F⟩ := C.says.def_ 2 (d := d_InvalidWay_init) rfl
  exact ⟨⟨fd, F.ok sc_InvalidWay_init (fun vs H Q E h => spExcI_len vs H Q E h) (fun cdv A outer s H vs Q E hr h => ⟨_, pss_one (ps_ost (pv 0) (pv 1)), read_excI C.x_InvalidWay h⟩), F.bindsN fun _ _ _ _ _ _ us hl => match us, hl with | [_, _], _ => rfl⟩, C.x_InvalidWay, C.g_InvalidWay⟩
theorem sc_InvalidYard_init : FnScope ["self", "value"] ["self", "value"] (defScope s_InvalidYard_init) := ⟨rfl, rfl, rfl, by decide +kernel, rfl, by decide +kernel, by decide +kernel⟩
theorem okx_InvalidYard (C : Ct K w mg) : GoodX P w K mg base "InvalidYard" "value" := by
  obtain ⟨fd, F⟩ := C.says.def_ 0 (d := d_InvalidYard_init) rfl
  exact ⟨⟨fd, F.ok sc_InvalidYard_init (fun vs H Q E h => spExcI_len vs H Q E h) (fun cdv A outer s H vs Q E hr h => ⟨_, pss_one (ps_ost (pv 0) (pv 1)), read_excI C.x_InvalidYard h⟩), F.bindsN fun _ _ _ _ _ _ us hl => match us, hl with | [_, _], _ => rfl⟩, C.x_InvalidYard, C.g_InvalidYard⟩
theorem ok__law_bag (C : Ct K w mg) : GoodO P w K mg base 1 "_law_bag" ["_law_cell_here"] (sp__law_bag K) := by
  obtain ⟨fd, F⟩ := C.says.def_ 58 (d := d__law_bag) rfl
  exact ⟨⟨fd, F.ok (k := 0) sc__law_bag (fun vs H Q E h => sp1_len vs H Q E h) (fun cdv A outer s H vs Q E hr h => ⟨t__law_bag K E, (have hu := hr.units; (pss_one (ps_ret (pe_lst (pa_cons (pe_callB (call_max2 rfl) (by rfl) C.n_max (by decide +kernel) (pa_cons pe_int (pa_cons (pe_op op_uSub (pv 0) (pe_op op_uPow pe_int pe_int)) pa_nil))) (pa_cons (pe_op op_uMod (pe_callTy call_int1 (by rfl) C.n_int (by decide +kernel) (pa_cons (pv 0) pa_nil)) pe_int) (pa_cons pe_int pa_nil))))))), read__law_bag C.F h⟩), F.bindsN fun _ _ _ _ _ _ us hl => match us, hl with | [_], _ => rfl⟩, C.g__law_bag, F.kp⟩
theorem ok__law_cell (C : Ct K w mg) : GoodO P w K mg base 1 "_law_cell" ["_law_script", "_law_k"] (sp__law_cell K) := by
  obtain ⟨fd, F⟩ := C.says.def_ 57 (d := d__law_cell) rfl
  exact ⟨⟨fd, F.ok (k := 0) sc__law_cell (fun vs H Q E h => sp2_len vs H Q E h) (fun cdv A outer s H vs Q E hr h => ⟨t__law_cell K E, (have hu := hr.units; (pss_cons (ps_set (i := 2) sc__law_cell.nd rfl (Or.inl rfl) (pe_op op_uAdd (pe_op op_uMul pe_int (pv 1)) pe_int)) (pss_one (ps_ret (pe_ifExp (pt_cmpR op_uLt (pv 1) (pe_callB call_uLen (by rfl) C.n_len boot_len (pa_cons (pv 0) pa_nil)) (by rfl)) (pe_ix ix_u (pv 0) (pv 1) (fun _ _ => rfl)) (pe_op op_uAdd (pv 2) (pe_ifExp (pt_cmpR op_uGt (pe_callB call_uLen (by rfl) C.n_len boot_len (pa_cons (pv 0) pa_nil)) pe_int (by rfl)) (pe_op op_uMod (pe_callTy call_int1 (by rfl) C.n_int (by decide +kernel) (pa_cons (pe_ix ix_u (pv 0) pe_int (fun _ _ => rfl)) pa_nil)) pe_int) pe_int))))))), read__law_cell C.F h⟩), F.bindsN fun _ _ _ _ _ _ us hl => match us, hl with | [_, _], _ => rfl⟩, C.g__law_cell, F.kp⟩
theorem ok_Yard_rows (C : Ct K w mg) : GoodM P w K mg base 1 "Yard" "rows" ["self"] (sp_Yard_rows K) := by
  obtain ⟨fd, F⟩ := C.says.def_ 33 (d := d_Yard_rows) rfl
  exact ⟨⟨fd, F.ok (k := 0) sc_Yard_rows (fun vs H Q E h => sp1_len vs H Q E h) (fun cdv A outer s H vs Q E hr h => ⟨t_Yard_rows K E, (have hu := hr.units; (pss_one (ps_ret (pe_lc (own := [("row", 1)]) (g := (gName 1)) (tt := tYes) rfl sc_Yard_rows.nd (pi_seq (pe_fld (pv 0) rfl)) (blkOk_by (N := n_Yard_rows) (sc := defScope s_Yard_rows) (by decide +kernel)) (fun _ _ _ _ _ => (pg_name (i := 1) sc_Yard_rows.nd rfl (Or.inl rfl))) (fun _ _ _ _ _ => pts_nil) (fun _ _ _ _ _ => (pe_callTy (call_uLst rfl) (by rfl) C.n_list (by decide +kernel) (pa_cons (pv 1) pa_nil))))))), read_Yard_rows C.F h⟩), F.bindsN fun _ _ _ _ _ _ us hl => match us, hl with | [_], _ => rfl⟩, C.m_Yard_rows, C.F.cl⟩
theorem ok_turned (C : Ct K w mg) : GoodO P w K mg base 1 "turned" ["six"] (sp_turned K) := by
  obtain ⟨fd, F⟩ := C.says.def_ 8 (d := d_turned) rfl
  exact ⟨⟨fd, F.ok (k := 0) sc_turned (fun vs H Q E h => sp1_len vs H Q E h) (fun cdv A outer s H vs Q E hr h => ⟨t_turned K E, (have hu := hr.units; (pss_cons (ps_asg (pv 0) (pg_tup (by rfl) (pgs_cons (pg_name (i := 1) sc_turned.nd rfl (Or.inl rfl)) (pgs_cons (pg_name (i := 2) sc_turned.nd rfl (Or.inl rfl)) (pgs_cons (pg_name (i := 3) sc_turned.nd rfl (Or.inl rfl)) (pgs_cons (pg_name (i := 4) sc_turned.nd rfl (Or.inl rfl)) (pgs_cons (pg_name (i := 5) sc_turned.nd rfl (Or.inl rfl)) (pgs_cons (pg_name (i := 6) sc_turned.nd rfl (Or.inl rfl)) pgs_nil)))))))) (pss_one (ps_ret (pe_tup (pa_cons (pv 3) (pa_cons (pv 5) (pa_cons (pv 1) (pa_cons (pv 6) (pa_cons (pv 2) (pa_cons (pv 4) pa_nil))))))))))), read_turned C.F h⟩), F.bindsN fun _ _ _ _ _ _ us hl => match us, hl with | [_], _ => rfl⟩, C.g_turned, F.kp⟩
theorem ok_Reckoning_init (C : Ct K w mg) : GoodM P w K mg base 1 "Reckoning" "__init__" ["self", "bound", "prices", "towers"] (sp_Reckoning_init K) := by
  obtain ⟨fd, F⟩ := C.says.def_ 12 (d := d_Reckoning_init) rfl
  exact ⟨⟨fd, F.ok (k := 0) sc_Reckoning_init (fun vs H Q E h => sp4_len vs H Q E h) (fun cdv A outer s H vs Q E hr h => ⟨t_Reckoning_init K E, (have hu := hr.units; (pss_cons (ps_fld (pv 0) (pv 1) rfl) (pss_cons (ps_fld (pv 0) (pv 2) rfl) (pss_cons (ps_fld (pv 0) (pv 3) rfl) (pss_one (ps_fld (pv 0) pe_non rfl)))))), read_Reckoning_init C.F C.kr h⟩), F.bindsN fun _ _ _ _ _ _ us hl => match us, hl with | [_, _, _, _], _ => rfl⟩, C.m_Reckoning_init, C.kr.cl⟩
theorem ok_Reckoning_backwards (C : Ct K w mg) : GoodM P w K mg base 3 "Reckoning" "backwards" ["self"] (sp_Reckoning_backwards K) := by
  obtain ⟨fd, F⟩ := C.says.def_ 13 (d := d_Reckoning_backwards) rfl
  exact ⟨⟨fd, F.ok (k := 2) sc_Reckoning_backwards (fun vs H Q E h => sp1_len vs H Q E h) (fun cdv A outer s H vs Q E hr h => ⟨t_Reckoning_backwards K E, (have hu := hr.units; (pss_cons (ps_if (pt_cmpR op_uIs (pe_fld (pv 0) rfl) pe_non (by rfl)) (pss_cons (ps_setLc (i := 1) (own := [("six", 2)]) (g := (gName 2)) (tt := tYes) rfl sc_Reckoning_backwards.nd rfl rfl (by exact sw_true rfl rfl rfl (by decide +kernel)) (pi_seq (pe_fld (pv 0) rfl)) (blkOk_by (N := n_Reckoning_backwards) (sc := defScope s_Reckoning_backwards) (by decide +kernel)) (fun _ _ _ _ _ => (pg_name (i := 2) sc_Reckoning_backwards.nd rfl (Or.inl rfl))) (fun _ _ _ _ _ => pts_nil) (fun _ _ _ _ _ => (pe_fo (ok_turned C) (hr.mono (by decide)) (by rfl) passL (ha := (pa_cons (pv 2) pa_nil))))) (pss_one (ps_fld (pv 0) (pe_mk (ok_Reckoning_init C) C.mk_Reckoning C.g_Reckoning (hr.mono (by decide)) (by rfl) (passes_call (takes_of rfl rfl rfl rfl) fun _ _ _ _ h => h) (ha := (pa_cons (pe_fld (pv 0) rfl) (pa_cons (pv 1) (pa_cons (pe_lc (own := [("six", 2)]) (g := (gName 2)) (tt := tYes) rfl sc_Reckoning_backwards.nd (pi_seq (pe_fld (pv 0) rfl)) (blkOk_by (N := n_Reckoning_backwards) (sc := defScope s_Reckoning_backwards) (by decide +kernel)) (fun _ _ _ _ _ => (pg_name (i := 2) sc_Reckoning_backwards.nd rfl (Or.inl rfl))) (fun _ _ _ _ _ => pts_nil) (fun _ _ _ _ _ => (pe_fo (ok_turned C) (hr.mono (by decide)) (by rfl) passL (ha := (pa_cons (pv 2) pa_nil))))) pa_nil))))) rfl))) pss_nil) (pss_one (ps_ret (pe_fld (pv 0) rfl))))), read_Reckoning_backwards C.F C.kr h⟩), F.bindsN fun _ _ _ _ _ _ us hl => match us, hl with | [_], _ => rfl⟩, C.m_Reckoning_backwards, C.kr.cl⟩
theorem ok__from_place (C : Ct K w mg) : GoodO P w K mg base 1 "_from_place" ["place", "prices", "towers", "below"] (sp__from_place K) := by
  obtain ⟨fd, F⟩ := C.says.def_ 7 (d := d__from_place) rfl
  exact ⟨⟨fd, F.ok (k := 0) sc__from_place (fun vs H Q E h => sp4_len vs H Q E h) (fun cdv A outer s H vs Q E hr h => ⟨t__from_place K E, (have hu := hr.units; (pss_cons (ps_asg (pv 2) (pg_tup (by rfl) (pgs_cons (pg_name (i := 4) sc__from_place.nd rfl (Or.inl rfl)) (pgs_cons (pg_name (i := 5) sc__from_place.nd rfl (Or.inl rfl)) (pgs_cons (pg_name (i := 6) sc__from_place.nd rfl (Or.inl rfl)) (pgs_cons (pg_name (i := 7) sc__from_place.nd rfl (Or.inl rfl)) (pgs_cons (pg_name (i := 8) sc__from_place.nd rfl (Or.inl rfl)) (pgs_cons (pg_name (i := 9) sc__from_place.nd rfl (Or.inl rfl)) pgs_nil)))))))) (pss_cons (ps_asg (pv 1) (pg_tup (by rfl) (pgs_cons (pg_name (i := 10) sc__from_place.nd rfl (Or.inl rfl)) (pgs_cons (pg_name (i := 11) sc__from_place.nd rfl (Or.inl rfl)) (pgs_cons (pg_name (i := 12) sc__from_place.nd rfl (Or.inl rfl)) (pgs_cons (pg_name (i := 13) sc__from_place.nd rfl (Or.inl rfl)) (pgs_cons (pg_name (i := 14) sc__from_place.nd rfl (Or.inl rfl)) (pgs_cons (pg_name (i := 15) sc__from_place.nd rfl (Or.inl rfl)) pgs_nil)))))))) (pss_cons (ps_asg (pv 3) (pg_tup (by rfl) (pgs_cons (pg_name (i := 16) sc__from_place.nd rfl (Or.inl rfl)) (pgs_cons (pg_name (i := 17) sc__from_place.nd rfl (Or.inl rfl)) (pgs_cons (pg_name (i := 18) sc__from_place.nd rfl (Or.inl rfl)) pgs_nil))))) (pss_cons (ps_if (pt_cmpR (op_uEq hu) (pv 0) pe_str (by rfl)) (pss_one (ps_ret (pe_tup (pa_cons (pv 16) (pa_cons (pe_callB (call_min2 rfl) (by rfl) C.n_min (by decide +kernel) (pa_cons (pe_op op_uAdd (pe_op op_uAdd (pv 18) (pv 10)) (pv 9)) (pa_cons (pe_op op_uAdd (pe_op op_uAdd (pe_op op_uAdd (pe_op op_uAdd (pv 17) (pv 11)) (pv 6)) (pv 15)) (pv 4)) pa_nil))) (pa_cons (pe_callB (call_min2 rfl) (by rfl) C.n_min (by decide +kernel) (pa_cons (pe_op op_uAdd (pe_op op_uAdd (pv 17) (pv 11)) (pv 7)) (pa_cons (pe_op op_uAdd (pe_op op_uAdd (pe_op op_uAdd (pe_op op_uAdd (pv 18) (pv 10)) (pv 8)) (pv 13)) (pv 5)) pa_nil))) pa_nil)))))) pss_nil) (pss_cons (ps_if (pt_cmpR (op_uEq hu) (pv 0) pe_str (by rfl)) (pss_one (ps_ret (pe_tup (pa_cons (pe_callB (call_min2 rfl) (by rfl) C.n_min (by decide +kernel) (pa_cons (pe_op op_uAdd (pe_op op_uAdd (pv 18) (pv 12)) (pv 8)) (pa_cons (pe_op op_uAdd (pe_op op_uAdd (pe_op op_uAdd (pe_op op_uAdd (pv 16) (pv 13)) (pv 4)) (pv 14)) (pv 6)) pa_nil))) (pa_cons (pv 17) (pa_cons (pe_callB (call_min2 rfl) (by rfl) C.n_min (by decide +kernel) (pa_cons (pe_op op_uAdd (pe_op op_uAdd (pv 16) (pv 13)) (pv 5)) (pa_cons (pe_op op_uAdd (pe_op op_uAdd (pe_op op_uAdd (pe_op op_uAdd (pv 18) (pv 12)) (pv 9)) (pv 11)) (pv 7)) pa_nil))) pa_nil)))))) pss_nil) (pss_one (ps_ret (pe_tup (pa_cons (pe_callB (call_min2 rfl) (by rfl) C.n_min (by decide +kernel) (pa_cons (pe_op op_uAdd (pe_op op_uAdd (pv 17) (pv 14)) (pv 6)) (pa_cons (pe_op op_uAdd (pe_op op_uAdd (pe_op op_uAdd (pe_op op_uAdd (pv 16) (pv 15)) (pv 5)) (pv 12)) (pv 8)) pa_nil))) (pa_cons (pe_callB (call_min2 rfl) (by rfl) C.n_min (by decide +kernel) (pa_cons (pe_op op_uAdd (pe_op op_uAdd (pv 16) (pv 15)) (pv 4)) (pa_cons (pe_op op_uAdd (pe_op op_uAdd (pe_op op_uAdd (pe_op op_uAdd (pv 17) (pv 14)) (pv 7)) (pv 10)) (pv 9)) pa_nil))) (pa_cons (pv 18) pa_nil)))))))))))), read__from_place C.F h⟩), F.bindsN fun _ _ _ _ _ _ us hl => match us, hl with | [_, _, _, _], _ => rfl⟩, C.g__from_place, F.kp⟩
theorem ok_to_towers_above (C : Ct K w mg) : GoodO P w K mg base 2 "to_towers_above" ["places", "prices", "towers", "below"] (sp_to_towers_above K) := by
  obtain ⟨fd, F⟩ := C.says.def_ 6 (d := d_to_towers_above) rfl
  exact ⟨⟨fd, F.ok (k := 1) sc_to_towers_above (fun vs H Q E h => sp4_len vs H Q E h) (fun cdv A outer s H vs Q E hr h => ⟨t_to_towers_above K E, (have hu := hr.units; (pss_cons (ps_if (pt_cmpR (op_uEq hu) (pe_callB call_uLen (by rfl) C.n_len boot_len (pa_cons (pv 0) pa_nil)) pe_int (by rfl)) (pss_one (ps_ret (pe_fo (ok__from_place C) (hr.mono (by decide)) (by rfl) (passes_call (takes_of rfl rfl rfl rfl) fun _ _ _ _ h => h) (ha := (pa_cons (pv 0) (pa_cons (pv 1) (pa_cons (pv 2) (pa_cons (pv 3) pa_nil)))))))) pss_nil) (pss_cons (ps_setLc (i := 4) (own := [("place", 5)]) (g := (gName 5)) (tt := tYes) rfl sc_to_towers_above.nd rfl rfl (by exact sw_true rfl rfl rfl (by decide +kernel)) (pi_seq (pv 0)) (blkOk_by (N := n_to_towers_above) (sc := defScope s_to_towers_above) (by decide +kernel)) (fun _ _ _ _ _ => (pg_name (i := 5) sc_to_towers_above.nd rfl (Or.inl rfl))) (fun _ _ _ _ _ => pts_nil) (fun _ _ _ _ _ => (pe_fo (ok__from_place C) (hr.mono (by decide)) (by rfl) passL (ha := (pa_cons (pv 5) (pa_cons (pv 1) (pa_cons (pv 2) (pa_cons (pv 3) pa_nil)))))))) (pss_one ps_never)))), read_to_towers_above C.F h⟩), F.bindsN fun _ _ _ _ _ _ us hl => match us, hl with | [_, _, _, _], _ => rfl⟩, C.g_to_towers_above, F.kp⟩
theorem ok_Reckoning_to_towers (C : Ct K w mg) : GoodM P w K mg base 3 "Reckoning" "to_towers" ["self", "starts"] (sp_Reckoning_to_towers K) := by
  obtain ⟨fd, F⟩ := C.says.def_ 14 (d := d_Reckoning_to_towers) rfl
  exact ⟨⟨fd, F.ok (k := 2) sc_Reckoning_to_towers (fun vs H Q E h => sp2_len vs H Q E h) (fun cdv A outer s H vs Q E hr h => ⟨t_Reckoning_to_towers K E, (have hu := hr.units; (pss_cons (ps_set (i := 2) sc_Reckoning_to_towers.nd rfl (Or.inl rfl) (pe_lst (pa_cons (pe_tup (pa_cons pe_int (pa_cons pe_int (pa_cons pe_int pa_nil)))) pa_nil))) (pss_cons (ps_for (passes_of rfl) rfl (pi_zip3 (by rfl) C.n_zip (pa_cons (pe_revS (pv 1)) (pa_cons (pe_fld (pv 0) rfl) (pa_cons (pe_fld (pv 0) rfl) pa_nil)))) (pg_tup (by rfl) (pgs_cons (pg_name (i := 3) sc_Reckoning_to_towers.nd rfl (Or.inl rfl)) (pgs_cons (pg_name (i := 4) sc_Reckoning_to_towers.nd rfl (Or.inl rfl)) (pgs_cons (pg_name (i := 5) sc_Reckoning_to_towers.nd rfl (Or.inl rfl)) pgs_nil)))) (pss_one (ps_expr (pe_bm PySem.F.plainAttrs_list PySem.F.slot_list_append PySem.F.type_list_append mt_append (pv 2) (pa_cons (pe_fo (ok_to_towers_above C) (hr.mono (by decide)) (by rfl) (passes_call (takes_of rfl rfl rfl rfl) fun _ _ _ _ h => h) (ha := (pa_cons (pv 3) (pa_cons (pv 4) (pa_cons (pv 5) (pa_cons (pe_ix ix_u (pv 2) (pe_un un_neg pe_int) (fun _ _ => rfl)) pa_nil)))))) pa_nil))))) (pss_one (ps_ret (pv 2)))))), read_Reckoning_to_towers C.F C.kr h⟩), F.bindsN fun _ _ _ _ _ _ us hl => match us, hl with | [_, _], _ => rfl⟩, C.m_Reckoning_to_towers, C.kr.cl⟩
theorem ok_Reckoning_from_towers (C : Ct K w mg) : GoodM P w K mg base 4 "Reckoning" "from_towers" ["self", "goals"] (sp_Reckoning_from_towers K) := by
  obtain ⟨fd, F⟩ := C.says.def_ 15 (d := d_Reckoning_from_towers) rfl
  exact ⟨⟨fd, F.ok (k := 3) sc_Reckoning_from_towers (fun vs H Q E h => sp2_len vs H Q E h) (fun cdv A outer s H vs Q E hr h => ⟨t_Reckoning_from_towers K E, (have hu := hr.units; (pss_one (ps_ret (Exists.elim (ok_Reckoning_to_towers C).fn fun _ z => pe_meth (Exists.elim (ok_Reckoning_backwards C).fn fun _ z => pe_meth0 (pv 0) (ok_Reckoning_backwards (P := P) (base := base) C).cl (ok_Reckoning_backwards (P := P) (base := base) C).mt z.1 (hr.mono (by decide)) z.2 .nil (passes_call (takes_of rfl rfl rfl rfl) fun _ _ _ _ h => h)) (ok_Reckoning_to_towers (P := P) (base := base) C).cl (ok_Reckoning_to_towers (P := P) (base := base) C).mt z.1 (hr.mono (by decide)) z.2 .nil (passes_call (takes_of rfl rfl rfl rfl) fun _ _ _ _ h => h) (pa_cons (pv 1) pa_nil))))), read_Reckoning_from_towers C.F C.kr h⟩), F.bindsN fun _ _ _ _ _ _ us hl => match us, hl with | [_, _], _ => rfl⟩, C.m_Reckoning_from_towers, C.kr.cl⟩
theorem ok_Reckoning_named (C : Ct K w mg) : GoodM P w K mg base 1 "Reckoning" "named" ["self", "names", "numbers"] (sp_Reckoning_named K) := by
  obtain ⟨fd, F⟩ := C.says.def_ 18 (d := d_Reckoning_named) rfl
  exact ⟨⟨fd, F.ok (k := 0) sc_Reckoning_named (fun vs H Q E h => sp3_len vs H Q E h) (fun cdv A outer s H vs Q E hr h => ⟨t_Reckoning_named K E, (have hu := hr.units; (pss_cons (ps_set (i := 3) sc_Reckoning_named.nd rfl (Or.inr rfl) (pe_fld (pv 0) rfl)) (pss_one (ps_ret (pe_dc (own := [("name", 4), ("number", 5)]) (g := (gTup K 2 (gCons (gName 4) (gCons (gName 5) gNil)))) (tt := tYes) rfl sc_Reckoning_named.nd (pi_zipV (by rfl) C.n_zip (pa_cons (pv 1) (pa_cons (pv 2) pa_nil))) (blkOk_by (N := n_Reckoning_named) (sc := defScope s_Reckoning_named) (by decide +kernel)) (fun _ _ _ _ _ => (pg_tup (by rfl) (pgs_cons (pg_name (i := 4) sc_Reckoning_named.nd rfl (Or.inl rfl)) (pgs_cons (pg_name (i := 5) sc_Reckoning_named.nd rfl (Or.inl rfl)) pgs_nil)))) (fun _ _ _ _ _ => pts_nil) (fun _ _ _ _ _ => (pv 4)) (fun _ _ _ _ _ => (pe_ifExp (pt_cmpR op_uLt (pv 5) (pv 3) (by rfl)) (pv 5) pe_non))))))), read_Reckoning_named C.F C.kr h⟩), F.bindsN fun _ _ _ _ _ _ us hl => match us, hl with | [_, _, _], _ => rfl⟩, C.m_Reckoning_named, C.kr.cl⟩
theorem ok_towers_above (C : Ct K w mg) : GoodO P w K mg base 1 "towers_above" ["prices", "below"] (sp_towers_above K) := by
  obtain ⟨fd, F⟩ := C.says.def_ 5 (d := d_towers_above) rfl
  exact ⟨⟨fd, F.ok (k := 0) sc_towers_above (fun vs H Q E h => sp2_len vs H Q E h) (fun cdv A outer s H vs Q E hr h => ⟨t_towers_above K E, (have hu := hr.units; (pss_cons (ps_asg (pv 1) (pg_tup (by rfl) (pgs_cons (pg_name (i := 2) sc_towers_above.nd rfl (Or.inl rfl)) (pgs_cons (pg_name (i := 3) sc_towers_above.nd rfl (Or.inl rfl)) (pgs_cons (pg_name (i := 4) sc_towers_above.nd rfl (Or.inl rfl)) (pgs_cons (pg_name (i := 5) sc_towers_above.nd rfl (Or.inl rfl)) (pgs_cons (pg_name (i := 6) sc_towers_above.nd rfl (Or.inl rfl)) (pgs_cons (pg_name (i := 7) sc_towers_above.nd rfl (Or.inl rfl)) pgs_nil)))))))) (pss_cons (ps_asg (pv 0) (pg_tup (by rfl) (pgs_cons (pg_name (i := 8) sc_towers_above.nd rfl (Or.inl rfl)) (pgs_cons (pg_name (i := 9) sc_towers_above.nd rfl (Or.inl rfl)) (pgs_cons (pg_name (i := 10) sc_towers_above.nd rfl (Or.inl rfl)) (pgs_cons (pg_name (i := 11) sc_towers_above.nd rfl (Or.inl rfl)) (pgs_cons (pg_name (i := 12) sc_towers_above.nd rfl (Or.inl rfl)) (pgs_cons (pg_name (i := 13) sc_towers_above.nd rfl (Or.inl rfl)) pgs_nil)))))))) (pss_one (ps_ret (pe_tup (pa_cons (pe_callB (call_min2 rfl) (by rfl) C.n_min (by decide +kernel) (pa_cons (pe_op op_uAdd (pe_op op_uAdd (pv 3) (pv 8)) (pv 7)) (pa_cons (pe_op op_uAdd (pe_op op_uAdd (pe_op op_uAdd (pe_op op_uAdd (pv 2) (pv 9)) (pv 4)) (pv 13)) (pv 2)) pa_nil))) (pa_cons (pe_callB (call_min2 rfl) (by rfl) C.n_min (by decide +kernel) (pa_cons (pe_op op_uAdd (pe_op op_uAdd (pv 2) (pv 9)) (pv 5)) (pa_cons (pe_op op_uAdd (pe_op op_uAdd (pe_op op_uAdd (pe_op op_uAdd (pv 3) (pv 8)) (pv 6)) (pv 11)) (pv 3)) pa_nil))) (pa_cons (pe_callB (call_min2 rfl) (by rfl) C.n_min (by decide +kernel) (pa_cons (pe_op op_uAdd (pe_op op_uAdd (pv 5) (pv 10)) (pv 6)) (pa_cons (pe_op op_uAdd (pe_op op_uAdd (pe_op op_uAdd (pe_op op_uAdd (pv 4) (pv 11)) (pv 2)) (pv 12)) (pv 4)) pa_nil))) (pa_cons (pe_callB (call_min2 rfl) (by rfl) C.n_min (by decide +kernel) (pa_cons (pe_op op_uAdd (pe_op op_uAdd (pv 4) (pv 11)) (pv 3)) (pa_cons (pe_op op_uAdd (pe_op op_uAdd (pe_op op_uAdd (pe_op op_uAdd (pv 5) (pv 10)) (pv 7)) (pv 9)) (pv 5)) pa_nil))) (pa_cons (pe_callB (call_min2 rfl) (by rfl) C.n_min (by decide +kernel) (pa_cons (pe_op op_uAdd (pe_op op_uAdd (pv 7) (pv 12)) (pv 4)) (pa_cons (pe_op op_uAdd (pe_op op_uAdd (pe_op op_uAdd (pe_op op_uAdd (pv 6) (pv 13)) (pv 3)) (pv 10)) (pv 6)) pa_nil))) (pa_cons (pe_callB (call_min2 rfl) (by rfl) C.n_min (by decide +kernel) (pa_cons (pe_op op_uAdd (pe_op op_uAdd (pv 6) (pv 13)) (pv 2)) (pa_cons (pe_op op_uAdd (pe_op op_uAdd (pe_op op_uAdd (pe_op op_uAdd (pv 7) (pv 12)) (pv 5)) (pv 8)) (pv 7)) pa_nil))) pa_nil)))))))))))), read_towers_above C.F h⟩), F.bindsN fun _ _ _ _ _ _ us hl => match us, hl with | [_, _], _ => rfl⟩, C.g_towers_above, F.kp⟩
theorem ok_without_bars (C : Ct K w mg) : GoodO P w K mg base 1 "without_bars" ["rows", "bound"] (sp_without_bars K) := by
  obtain ⟨fd, F⟩ := C.says.def_ 11 (d := d_without_bars) rfl
  exact ⟨⟨fd, F.ok (k := 0) sc_without_bars (fun vs H Q E h => sp2_len vs H Q E h) (fun cdv A outer s H vs Q E hr h => ⟨t_without_bars K E, (have hu := hr.units; (pss_one (ps_ret (pe_lc (own := [("row", 2)]) (g := (gName 2)) (tt := tYes) rfl sc_without_bars.nd (pi_seq (pe_revU (pv 0))) (blkOk_by (N := n_without_bars) (sc := defScope s_without_bars) (by decide +kernel)) (fun _ _ _ _ _ => (pg_name (i := 2) sc_without_bars.nd rfl (Or.inl rfl))) (fun _ _ _ _ _ => pts_nil) (fun _ _ _ _ _ => (pe_ifExp (pt_cmpR op_uIn pe_non (pv 2) (by rfl)) (pe_callTy (call_uTup rfl) (by rfl) C.n_tuple (by decide +kernel) (pa_cons (pe_lc (own := [("price", 3)]) (g := (gName 3)) (tt := tYes) rfl sc_without_bars.nd (pi_seq (pv 2)) (blkOk_by (N := n_without_bars) (sc := ({ kind := .function, names := [(".0", .local), ("row", .local), ("tuple", .globalImplicit), ("bound", .cell)], isGenerator := false, isCoroutine := false } : Scope)) (by decide +kernel)) (fun _ _ _ _ _ => (pg_name (i := 3) sc_without_bars.nd rfl (Or.inl rfl))) (fun _ _ _ _ _ => pts_nil) (fun _ _ _ _ _ => (pe_ifExp (pt_cmpR op_uIs (pv 3) pe_non (by rfl)) (pv 1) (pv 3)))) pa_nil)) (pv 2))))))), read_without_bars C.F h⟩), F.bindsN fun _ _ _ _ _ _ us hl => match us, hl with | [_, _], _ => rfl⟩, C.g_without_bars, F.kp⟩
theorem ok_reckoning_of (C : Ct K w mg) : GoodO P w K mg base 3 "reckoning_of" ["rows"] (sp_reckoning_of K) := by
  obtain ⟨fd, F⟩ := C.says.def_ 10 (d := d_reckoning_of) rfl
  exact ⟨⟨fd, F.ok (k := 2) sc_reckoning_of (fun vs H Q E h => sp1_len vs H Q E h) (fun cdv A outer s H vs Q E hr h => ⟨t_reckoning_of K E, (have hu := hr.units; (pss_cons (ps_set (i := 1) sc_reckoning_of.nd rfl (Or.inl rfl) (pe_callBK (call_maxDf rfl hu) (by rfl) C.n_max (by decide +kernel) (pa_cons (pe_lc2 (own := [("row", 6), ("price", 7)]) (vs1 := [7]) rfl sc_reckoning_of.nd (pi_seq (pv 0)) (blkOk_by (N := n_reckoning_of) (sc := defScope s_reckoning_of) (by decide +kernel)) (by decide) (fun _ _ _ _ _ => (pg_name (i := 6) sc_reckoning_of.nd rfl (Or.inl rfl))) (fun _ _ _ _ _ => pts_nil) (fun _ _ _ _ _ => (pi_seq (pv 6))) (fun _ _ _ _ _ => (pg_name (i := 7) sc_reckoning_of.nd rfl (Or.inl rfl))) (fun _ _ _ _ _ => (pts_one (pt_cmpR op_uNis (pv 7) pe_non (by rfl)))) (fun _ _ _ _ _ => (pv 7))) pa_nil) (pk_cons pe_int pk_nil))) (pss_cons (ps_set (i := 2) sc_reckoning_of.nd rfl (Or.inl rfl) (pe_op op_uShl (pv 1) (pe_op op_uMul pe_int (pe_callB call_uLen (by rfl) C.n_len boot_len (pa_cons (pv 0) pa_nil))))) (pss_cons (ps_set (i := 3) sc_reckoning_of.nd rfl (Or.inl rfl) (pe_fo (ok_without_bars C) (hr.mono (by decide)) (by rfl) (passes_call (takes_of rfl rfl rfl rfl) fun _ _ _ _ h => h) (ha := (pa_cons (pv 0) (pa_cons (pv 2) pa_nil))))) (pss_cons (ps_set (i := 4) sc_reckoning_of.nd rfl (Or.inl rfl) (pe_lst (pa_cons (pe_tup (pa_cons pe_int (pa_cons pe_int (pa_cons pe_int (pa_cons pe_int (pa_cons pe_int (pa_cons pe_int pa_nil))))))) pa_nil))) (pss_cons (ps_for (passes_of rfl) rfl (pi_seq (pv 3)) (pg_name (i := 5) sc_reckoning_of.nd rfl (Or.inl rfl)) (pss_one (ps_expr (pe_bm PySem.F.plainAttrs_list PySem.F.slot_list_append PySem.F.type_list_append mt_append (pv 4) (pa_cons (pe_fo (ok_towers_above C) (hr.mono (by decide)) (by rfl) (passes_call (takes_of rfl rfl rfl rfl) fun _ _ _ _ h => h) (ha := (pa_cons (pv 5) (pa_cons (pe_ix ix_u (pv 4) (pe_un un_neg pe_int) (fun _ _ => rfl)) pa_nil)))) pa_nil))))) (pss_one (ps_ret (pe_mk (ok_Reckoning_init C) C.mk_Reckoning C.g_Reckoning (hr.mono (by decide)) (by rfl) (passes_call (takes_of rfl rfl rfl rfl) fun _ _ _ _ h => h) (ha := (pa_cons (pv 2) (pa_cons (pv 3) (pa_cons (pv 4) pa_nil))))))))))))), read_reckoning_of C.F C.kr h⟩), F.bindsN fun _ _ _ _ _ _ us hl => match us, hl with | [_], _ => rfl⟩, C.g_reckoning_of, F.kp⟩
theorem ok_Yard_reckoning (C : Ct K w mg) : GoodM P w K mg base 4 "Yard" "reckoning" ["self"] (sp_Yard_reckoning K) := by
  obtain ⟨fd, F⟩ := C.says.def_ 35 (d := d_Yard_reckoning) rfl
  exact ⟨⟨fd, F.ok (k := 3) sc_Yard_reckoning (fun vs H Q E h => sp1_len vs H Q E h) (fun cdv A outer s H vs Q E hr h => ⟨t_Yard_reckoning K E, (have hu := hr.units; (pss_cons (ps_if (pt_cmpR op_uIs (pe_fld (pv 0) rfl) pe_non (by rfl)) (pss_one (ps_fld (pv 0) (pe_fo (ok_reckoning_of C) (hr.mono (by decide)) (by rfl) (passes_call (takes_of rfl rfl rfl rfl) fun _ _ _ _ h => h) (ha := (pa_cons (pe_fld (pv 0) rfl) pa_nil))) rfl)) pss_nil) (pss_one (ps_ret (pe_fld (pv 0) rfl))))), read_Yard_reckoning C.F C.kr h⟩), F.bindsN fun _ _ _ _ _ _ us hl => match us, hl with | [_], _ => rfl⟩, C.m_Yard_reckoning, C.F.cl⟩
theorem ok_Yard_len (C : Ct K w mg) : GoodM P w K mg base 1 "Yard" "__len__" ["self"] (sp_Yard_len K) := by
  obtain ⟨fd, F⟩ := C.says.def_ 32 (d := d_Yard_len) rfl
  exact ⟨⟨fd, F.ok (k := 0) sc_Yard_len (fun vs H Q E h => sp1_len vs H Q E h) (fun cdv A outer s H vs Q E hr h => ⟨t_Yard_len K E, (have hu := hr.units; (pss_one (ps_ret (pe_callB call_uLen (by rfl) C.n_len boot_len (pa_cons (pe_fld (pv 0) rfl) pa_nil))))), read_Yard_len C.F h⟩), F.bindsN fun _ _ _ _ _ _ us hl => match us, hl with | [_], _ => rfl⟩, C.m_Yard_len, C.F.cl⟩
theorem ok_check_yard (C : Ct K w mg) : GoodO P w K mg base 3 "check_yard" ["yard"] (sp_check_yard K) := by
  obtain ⟨fd, F⟩ := C.says.def_ 30 (d := d_check_yard) rfl
  exact ⟨⟨fd, F.ok (k := 2) sc_check_yard (fun vs H Q E h => sp1_len vs H Q E h) (fun cdv A outer s H vs Q E hr h => ⟨t_check_yard K E, (have hu := hr.units; (pss_one (ps_if (pt_not (pt_val (pe_callB call_uIsi (by rfl) C.n_isinstance (by decide +kernel) (pa_cons (pv 0) (pa_cons (pe_glob (by rfl) C.g_Yard rfl) pa_nil))))) (pss_one (ps_rse (okx_InvalidYard C) (hr.mono (by decide)) rfl (takes_of rfl rfl rfl rfl) (by rfl) (pa_cons (pv 0) pa_nil))) pss_nil))), read_check_yard C.F h⟩), F.bindsN fun _ _ _ _ _ _ us hl => match us, hl with | [_], _ => rfl⟩, C.g_check_yard, F.kp⟩
theorem ok_is_arrangement (C : Ct K w mg) : GoodO P w K mg base 4 "is_arrangement" ["yard", "value"] (sp_is_arrangement K) := by
  obtain ⟨fd, F⟩ := C.says.def_ 45 (d := d_is_arrangement) rfl
  exact ⟨⟨fd, F.ok (k := 3) sc_is_arrangement (fun vs H Q E h => sp2_len vs H Q E h) (fun cdv A outer s H vs Q E hr h => ⟨t_is_arrangement K E, (have hu := hr.units; (pss_cons (ps_expr (pe_fo (ok_check_yard C) (hr.mono (by decide)) (by rfl) (passes_call (takes_of rfl rfl rfl rfl) fun _ _ _ _ h => h) (ha := (pa_cons (pv 0) pa_nil)))) (pss_one (ps_ret (pe_and (pe_callB call_uIsi (by rfl) C.n_isinstance (by decide +kernel) (pa_cons (pv 1) (pa_cons (pe_bltn (v := .ty "str") (by rfl) C.n_str (by decide +kernel) rfl) pa_nil))) (pe_and (pe_cmpR (op_uEq hu) (pe_callB call_uLen (by rfl) C.n_len boot_len (pa_cons (pv 1) pa_nil)) (pe_lenY (ok_Yard_len C) (hr.mono (by decide)) (by rfl) C.n_len (pa_cons (pv 0) pa_nil)) (by rfl)) (pe_one (pe_cmpR (op_uEq hu) (pe_bm PySem.F.plainAttrs_str PySem.F.slot_str_strip PySem.F.type_str_strip mt_stripU (pv 1) (pa_cons (pe_str_of (by rfl) (C.str__PLACE_SIGNS)) pa_nil)) pe_str (by rfl))))))))), read_is_arrangement C.F h⟩), F.bindsN fun _ _ _ _ _ _ us hl => match us, hl with | [_, _], _ => rfl⟩, C.g_is_arrangement, F.kp⟩
theorem ok_check_arrangement (C : Ct K w mg) : GoodO P w K mg base 5 "check_arrangement" ["yard", "arrangement"] (sp_check_arrangement K) := by
  obtain ⟨fd, F⟩ := C.says.def_ 46 (d := d_check_arrangement) rfl
  exact ⟨⟨fd, F.ok (k := 4) sc_check_arrangement (fun vs H Q E h => sp2_len vs H Q E h) (fun cdv A outer s H vs Q E hr h => ⟨t_check_arrangement K E, (have hu := hr.units; (pss_one (ps_if (pt_not (pt_val (pe_fo (ok_is_arrangement C) (hr.mono (by decide)) (by rfl) (passes_call (takes_of rfl rfl rfl rfl) fun _ _ _ _ h => h) (ha := (pa_cons (pv 0) (pa_cons (pv 1) pa_nil)))))) (pss_one (ps_rse (okx_InvalidArrangement C) (hr.mono (by decide)) rfl (takes_of rfl rfl rfl rfl) (by rfl) (pa_cons (pv 1) pa_nil))) pss_nil))), read_check_arrangement C.F h⟩), F.bindsN fun _ _ _ _ _ _ us hl => match us, hl with | [_, _], _ => rfl⟩, C.g_check_arrangement, F.kp⟩
theorem ok_from_towers (C : Ct K w mg) : GoodO P w K mg base 6 "from_towers" ["yard", "goal"] (sp_from_towers K) := by
  obtain ⟨fd, F⟩ := C.says.def_ 49 (d := d_from_towers) rfl
  exact ⟨⟨fd, F.ok (k := 5) sc_from_towers (fun vs H Q E h => sp2_len vs H Q E h) (fun cdv A outer s H vs Q E hr h => ⟨t_from_towers K E, (have hu := hr.units; (pss_cons (ps_expr (pe_fo (ok_check_arrangement C) (hr.mono (by decide)) (by rfl) (passes_call (takes_of rfl rfl rfl rfl) fun _ _ _ _ h => h) (ha := (pa_cons (pv 0) (pa_cons (pv 1) pa_nil))))) (pss_cons (ps_set (i := 2) sc_from_towers.nd rfl (Or.inl rfl) (Exists.elim (ok_Yard_reckoning C).fn fun _ z => pe_meth0 (pv 0) (ok_Yard_reckoning (P := P) (base := base) C).cl (ok_Yard_reckoning (P := P) (base := base) C).mt z.1 (hr.mono (by decide)) z.2 .nil (passes_call (takes_of rfl rfl rfl rfl) fun _ _ _ _ h => h))) (pss_one (ps_ret (Exists.elim (ok_Reckoning_named C).fn fun _ z => pe_meth (pv 2) (ok_Reckoning_named (P := P) (base := base) C).cl (ok_Reckoning_named (P := P) (base := base) C).mt z.1 (hr.mono (by decide)) z.2 .nil (passes_call (takes_of rfl rfl rfl rfl) fun _ _ _ _ h => h) (pa_cons (pe_glob (by rfl) C.g_PLACES rfl) (pa_cons (pe_ix ix_u (Exists.elim (ok_Reckoning_from_towers C).fn fun _ z => pe_meth (pv 2) (ok_Reckoning_from_towers (P := P) (base := base) C).cl (ok_Reckoning_from_towers (P := P) (base := base) C).mt z.1 (hr.mono (by decide)) z.2 .nil (passes_call (takes_of rfl rfl rfl rfl) fun _ _ _ _ h => h) (pa_cons (pv 1) pa_nil)) (pe_un un_neg pe_int) (fun _ _ => rfl)) pa_nil)))))))), read_from_towers h⟩), F.bindsN fun _ _ _ _ _ _ us hl => match us, hl with | [_, _], _ => rfl⟩, C.g_from_towers, F.kp⟩
theorem ok__is_level (C : Ct K w mg) : GoodO P w K mg base 1 "_is_level" ["value", "names"] (sp__is_level K) := by
  obtain ⟨fd, F⟩ := C.says.def_ 21 (d := d__is_level) rfl
  exact ⟨⟨fd, F.ok (k := 0) sc__is_level (fun vs H Q E h => sp2_len vs H Q E h) (fun cdv A outer s H vs Q E hr h => ⟨t__is_level K E, (have hu := hr.units; (pss_cons (ps_if (PW.pt (pw_or (pt_not (pt_val (pe_callB call_uIsi (by rfl) C.n_isinstance (by decide +kernel) (pa_cons (pv 0) (pa_cons (pe_bltn (v := .ty "dict") (by rfl) C.n_dict (by decide +kernel) rfl) pa_nil))))) (pw_or1 (pt_cmpR (op_uNe hu) (pe_callB call_lenD' (by rfl) C.n_len boot_len (pa_cons (pv 0) pa_nil)) (pe_callB call_uLen (by rfl) C.n_len boot_len (pa_cons (pv 1) pa_nil)) (by rfl))))) (pss_one (ps_ret pe_bl)) pss_nil) (pss_cons (ps_setLc (i := 2) (own := [("name", 3)]) (g := (gName 3)) (tt := tYes) rfl sc__is_level.nd rfl rfl (by exact sw_true rfl rfl rfl (by decide +kernel)) (pi_seq (pv 1)) (blkOk_by (N := n__is_level) (sc := defScope s__is_level) (by decide +kernel)) (fun _ _ _ _ _ => (pg_name (i := 3) sc__is_level.nd rfl (Or.inl rfl))) (fun _ _ _ _ _ => pts_nil) (fun _ _ _ _ _ => (pe_dget2 (Nat.lt_of_le_of_lt (Nat.add_le_add_left (by decide) _) hu) (pv 0) (pv 3) pe_bl ⟨rfl, rfl, rfl, rfl⟩))) (pss_one (ps_ret (pe_callB (cr_all rfl) (by rfl) C.n_all (by decide +kernel) (pa_cons (pe_lc (own := [("cost", 4)]) (g := (gName 4)) (tt := tYes) rfl sc__is_level.nd (pi_seq (pv 2)) (blkOk_by (N := n__is_level) (sc := defScope s__is_level) (by decide +kernel)) (fun _ _ _ _ _ => (pg_name (i := 4) sc__is_level.nd rfl (Or.inl rfl))) (fun _ _ _ _ _ => pts_nil) (fun _ _ _ _ _ => (pe_or (pe_cmpR op_uIs (pv 4) pe_non (by rfl)) (pe_one (pe_and (pe_callB call_uIsi (by rfl) C.n_isinstance (by decide +kernel) (pa_cons (pv 4) (pa_cons (pe_bltn (v := .ty "int") (by rfl) C.n_int (by decide +kernel) rfl) pa_nil))) (pe_and (pe_not (pe_callB call_uIsi (by rfl) C.n_isinstance (by decide +kernel) (pa_cons (pv 4) (pa_cons (pe_bltn (v := .ty "bool") (by rfl) C.n_bool (by decide +kernel) rfl) pa_nil)))) (pe_one (pe_cmpR op_uGe (pv 4) pe_int (by rfl))))))))) pa_nil))))))), read__is_level C.F h⟩), F.bindsN fun _ _ _ _ _ _ us hl => match us, hl with | [_, _], _ => rfl⟩, C.g__is_level, F.kp⟩
theorem ok_are_levels (C : Ct K w mg) : GoodO P w K mg base 2 "are_levels" ["value", "count", "names"] (sp_are_levels K) := by
  obtain ⟨fd, F⟩ := C.says.def_ 20 (d := d_are_levels) rfl
  exact ⟨⟨fd, F.ok (k := 1) sc_are_levels (fun vs H Q E h => sp3_len vs H Q E h) (fun cdv A outer s H vs Q E hr h => ⟨t_are_levels K E, (have hu := hr.units; (pss_one (ps_ret (pe_and (pe_callB call_uIsi (by rfl) C.n_isinstance (by decide +kernel) (pa_cons (pv 0) (pa_cons (pe_tup (pa_cons (pe_bltn (v := .ty "list") (by rfl) C.n_list (by decide +kernel) rfl) (pa_cons (pe_bltn (v := .ty "tuple") (by rfl) C.n_tuple (by decide +kernel) rfl) pa_nil))) pa_nil))) (pe_and (pe_cmpR (op_uEq hu) (pe_callB call_uLen (by rfl) C.n_len boot_len (pa_cons (pv 0) pa_nil)) (pv 1) (by rfl)) (pe_and (pe_callB (cr_all rfl) (by rfl) C.n_all (by decide +kernel) (pa_cons (pe_lc (own := [("level", 3)]) (g := (gName 3)) (tt := tYes) rfl sc_are_levels.nd (pi_seq (pv 0)) (blkOk_by (N := n_are_levels) (sc := defScope s_are_levels) (by decide +kernel)) (fun _ _ _ _ _ => (pg_name (i := 3) sc_are_levels.nd rfl (Or.inl rfl))) (fun _ _ _ _ _ => pts_nil) (fun _ _ _ _ _ => (pe_fo (ok__is_level C) (hr.mono (by decide)) (by rfl) passL (ha := (pa_cons (pv 3) (pa_cons (pv 2) pa_nil)))))) pa_nil)) (pe_one (pe_callB (cr_all rfl) (by rfl) C.n_all (by decide +kernel) (pa_cons (pe_lc (own := [("name", 4)]) (g := (gName 4)) (tt := tYes) rfl sc_are_levels.nd (pi_seq (pv 2)) (blkOk_by (N := n_are_levels) (sc := defScope s_are_levels) (by decide +kernel)) (fun _ _ _ _ _ => (pg_name (i := 4) sc_are_levels.nd rfl (Or.inl rfl))) (fun _ _ _ _ _ => pts_nil) (fun _ _ _ _ _ => (pe_cmpR (op_uEq hu) (pe_dget (Nat.lt_of_le_of_lt (Nat.add_le_add_left (by decide) _) hu) (pe_ix ix_u (pv 0) pe_int (fun _ _ => rfl)) (pv 4) (fun _ _ => rfl)) pe_int (by rfl)))) pa_nil))))))))), read_are_levels C.F h⟩), F.bindsN fun _ _ _ _ _ _ us hl => match us, hl with | [_, _, _], _ => rfl⟩, C.g_are_levels, F.kp⟩
theorem ok_are_within (C : Ct K w mg) : GoodO P w K mg base 1 "are_within" ["levels", "limits"] (sp_are_within K) := by
  obtain ⟨fd, F⟩ := C.says.def_ 25 (d := d_are_within) rfl
  exact ⟨⟨fd, F.ok (k := 0) sc_are_within (fun vs H Q E h => sp2_len vs H Q E h) (fun cdv A outer s H vs Q E hr h => ⟨t_are_within K E, (have hu := hr.units; (pss_one (ps_ret (pe_callB (cr_all rfl) (by rfl) C.n_all (by decide +kernel) (pa_cons (pe_lc (own := [("level", 2), ("line", 3)]) (g := (gTup K 2 (gCons (gName 2) (gCons (gName 3) gNil)))) (tt := tYes) rfl sc_are_within.nd (pi_zipV (by rfl) C.n_zip (pa_cons (pe_slice sl_u (pv 0) (po_some pe_int) po_none) (pa_cons (pv 1) pa_nil))) (blkOk_by (N := n_are_within) (sc := defScope s_are_within) (by decide +kernel)) (fun _ _ _ _ _ => (pg_tup (by rfl) (pgs_cons (pg_name (i := 2) sc_are_within.nd rfl (Or.inl rfl)) (pgs_cons (pg_name (i := 3) sc_are_within.nd rfl (Or.inl rfl)) pgs_nil)))) (fun _ _ _ _ _ => pts_nil) (fun _ _ _ _ _ => (pe_callB (cr_all rfl) (by rfl) C.n_all (by decide +kernel) (pa_cons (pe_lc (own := [("number", 4), ("limit", 5)]) (g := (gTup K 2 (gCons (gName 4) (gCons (gName 5) gNil)))) (tt := tYes) rfl sc_are_within.nd (pi_zipV (by rfl) C.n_zip (pa_cons (pv 2) (pa_cons (pv 3) pa_nil))) (blkOk_by (N := n_are_within) (sc := ({ kind := .function, names := [(".0", .local), ("level", .local), ("line", .local), ("all", .globalImplicit), ("zip", .globalImplicit)], isGenerator := false, isCoroutine := false } : Scope)) (by decide +kernel)) (fun _ _ _ _ _ => (pg_tup (by rfl) (pgs_cons (pg_name (i := 4) sc_are_within.nd rfl (Or.inl rfl)) (pgs_cons (pg_name (i := 5) sc_are_within.nd rfl (Or.inl rfl)) pgs_nil)))) (fun _ _ _ _ _ => pts_nil) (fun _ _ _ _ _ => (pe_cmpR op_uLe (pv 4) (pv 5) (by rfl)))) pa_nil)))) pa_nil))))), read_are_within C.F h⟩), F.bindsN fun _ _ _ _ _ _ us hl => match us, hl with | [_, _], _ => rfl⟩, C.g_are_within, F.kp⟩
theorem ok__are_within_sums (C : Ct K w mg) : GoodO P w K mg base 2 "_are_within_sums" ["start", "prices", "towers", "levels"] (sp__are_within_sums K) := by
  obtain ⟨fd, F⟩ := C.says.def_ 55 (d := d__are_within_sums) rfl
  exact ⟨⟨fd, F.ok (k := 1) sc__are_within_sums (fun vs H Q E h => sp4_len vs H Q E h) (fun cdv A outer s H vs Q E hr h => ⟨t__are_within_sums K E, (have hu := hr.units; (pss_one ps_never)), read__are_within_sums h⟩), F.bindsN fun _ _ _ _ _ _ us hl => match us, hl with | [_, _, _, _], _ => rfl⟩, C.g__are_within_sums, F.kp⟩
theorem ok_bound_beyond (C : Ct K w mg) : GoodO P w K mg base 5 "bound_beyond" ["yard", "lists"] (sp_bound_beyond K) := by
  obtain ⟨fd, F⟩ := C.says.def_ 22 (d := d_bound_beyond) rfl
  exact ⟨⟨fd, F.ok (k := 4) sc_bound_beyond (fun vs H Q E h => sp2_len vs H Q E h) (fun cdv A outer s H vs Q E hr h => ⟨t_bound_beyond K E, (have hu := hr.units; (pss_cons (ps_lockS (ps_setLc3 (i := 2) (own := [("levels", 3), ("level", 4), ("cost", 5)]) (vs1 := [4, 5]) (vs2 := [5]) rfl sc_bound_beyond.nd rfl rfl (by exact sw_true rfl rfl rfl (by decide +kernel)) (pi_seq (pv 1)) (blkOk_by (N := n_bound_beyond) (sc := defScope s_bound_beyond) (by decide +kernel)) (by decide) (by decide) (fun _ _ _ _ _ => (pg_name (i := 3) sc_bound_beyond.nd rfl (Or.inl rfl))) (fun _ _ _ _ _ => pts_nil) (fun _ _ _ _ _ => (pi_seq (pv 3))) (fun _ _ _ _ _ => (pg_name (i := 4) sc_bound_beyond.nd rfl (Or.inl rfl))) (fun _ _ _ _ _ => pts_nil) (fun _ _ _ _ _ => (pi_values (pv 4))) (fun _ _ _ _ _ => (pg_name (i := 5) sc_bound_beyond.nd rfl (Or.inl rfl))) (fun _ _ _ _ _ => (pts_one (pt_cmpR op_uNis (pv 5) pe_non (by rfl)))) (fun _ _ _ _ _ => (pv 5)))) (pss_one (ps_ret (pe_op op_uAdd (pe_fld (Exists.elim (ok_Yard_reckoning C).fn fun _ z => pe_meth0 (pv 0) (ok_Yard_reckoning (P := P) (base := base) C).cl (ok_Yard_reckoning (P := P) (base := base) C).mt z.1 (hr.mono (by decide)) z.2 .nil (passes_call (takes_of rfl rfl rfl rfl) fun _ _ _ _ h => h)) rfl) (pe_op op_uMul pe_int (pe_callB (cr_max rfl) (by rfl) C.n_max (by decide +kernel) (pa_cons (pv 2) pa_nil)))))))), read_bound_beyond C.F C.kr h⟩), F.bindsN fun _ _ _ _ _ _ us hl => match us, hl with | [_, _], _ => rfl⟩, C.g_bound_beyond, F.kp⟩
theorem ok_Yard_price_rows (C : Ct K w mg) : GoodM P w K mg base 1 "Yard" "price_rows" ["self"] (sp_Yard_price_rows K) := by
  obtain ⟨fd, F⟩ := C.says.def_ 34 (d := d_Yard_price_rows) rfl
  exact ⟨⟨fd, F.ok (k := 0) sc_Yard_price_rows (fun vs H Q E h => sp1_len vs H Q E h) (fun cdv A outer s H vs Q E hr h => ⟨t_Yard_price_rows K E, (have hu := hr.units; (pss_one (ps_ret (pe_fld (pv 0) rfl)))), read_Yard_price_rows C.F h⟩), F.bindsN fun _ _ _ _ _ _ us hl => match us, hl with | [_], _ => rfl⟩, C.m_Yard_price_rows, C.F.cl⟩
theorem ok_bounded_prices (C : Ct K w mg) : GoodO P w K mg base 2 "bounded_prices" ["yard", "bound"] (sp_bounded_prices K) := by
  obtain ⟨fd, F⟩ := C.says.def_ 23 (d := d_bounded_prices) rfl
  exact ⟨⟨fd, F.ok (k := 1) sc_bounded_prices (fun vs H Q E h => sp2_len vs H Q E h) (fun cdv A outer s H vs Q E hr h => ⟨t_bounded_prices K E, (have hu := hr.units; (pss_one (ps_ret (pe_fo (ok_without_bars C) (hr.mono (by decide)) (by rfl) (passes_call (takes_of rfl rfl rfl rfl) fun _ _ _ _ h => h) (ha := (pa_cons (Exists.elim (ok_Yard_price_rows C).fn fun _ z => pe_meth0 (pv 0) (ok_Yard_price_rows (P := P) (base := base) C).cl (ok_Yard_price_rows (P := P) (base := base) C).mt z.1 (hr.mono (by decide)) z.2 .nil (passes_call (takes_of rfl rfl rfl rfl) fun _ _ _ _ h => h)) (pa_cons (pv 1) pa_nil))))))), read_bounded_prices C.F h⟩), F.bindsN fun _ _ _ _ _ _ us hl => match us, hl with | [_, _], _ => rfl⟩, C.g_bounded_prices, F.kp⟩
theorem ok_numbers_of (C : Ct K w mg) : GoodO P w K mg base 1 "numbers_of" ["levels", "names", "bound"] (sp_numbers_of K) := by
  obtain ⟨fd, F⟩ := C.says.def_ 24 (d := d_numbers_of) rfl
  exact ⟨⟨fd, F.ok (k := 0) sc_numbers_of (fun vs H Q E h => sp3_len vs H Q E h) (fun cdv A outer s H vs Q E hr h => ⟨t_numbers_of K E, (have hu := hr.units; (pss_one (ps_ret (pe_lc (own := [("level", 3)]) (g := (gName 3)) (tt := tYes) rfl sc_numbers_of.nd (pi_seq (pv 0)) (blkOk_by (N := n_numbers_of) (sc := defScope s_numbers_of) (by decide +kernel)) (fun _ _ _ _ _ => (pg_name (i := 3) sc_numbers_of.nd rfl (Or.inr rfl))) (fun _ _ _ _ _ => pts_nil) (fun _ _ _ _ _ => (pe_callTy (call_uTup rfl) (by rfl) C.n_tuple (by decide +kernel) (pa_cons (pe_lc (own := [("name", 4)]) (g := (gName 4)) (tt := tYes) rfl sc_numbers_of.nd (pi_seq (pv 1)) (blkOk_by (N := n_numbers_of) (sc := ({ kind := .function, names := [(".0", .local), ("level", .cell), ("tuple", .globalImplicit), ("bound", .cell), ("names", .cell)], isGenerator := false, isCoroutine := false } : Scope)) (by decide +kernel)) (fun _ _ _ _ _ => (pg_name (i := 4) sc_numbers_of.nd rfl (Or.inl rfl))) (fun _ _ _ _ _ => pts_nil) (fun _ _ _ _ _ => (pe_ifExp (pt_cmpR op_uIs (pe_dget (Nat.lt_of_le_of_lt (Nat.add_le_add_left (by decide) _) hu) (pv 3) (pv 4) (fun _ _ => rfl)) pe_non (by rfl)) (pv 2) (pe_dget (Nat.lt_of_le_of_lt (Nat.add_le_add_left (by decide) _) hu) (pv 3) (pv 4) (fun _ _ => rfl))))) pa_nil))))))), read_numbers_of C.F h⟩), F.bindsN fun _ _ _ _ _ _ us hl => match us, hl with | [_, _, _], _ => rfl⟩, C.g_numbers_of, F.kp⟩
theorem ok_are_within_lines_costs (C : Ct K w mg) : GoodO P w K mg base 6 "are_within_lines_costs" ["yard", "start", "goal", "paper"] (sp_are_within_lines_costs K) := by
  obtain ⟨fd, F⟩ := C.says.def_ 54 (d := d_are_within_lines_costs) rfl
  exact ⟨⟨fd, F.ok (k := 5) sc_are_within_lines_costs (fun vs H Q E h => sp4_len vs H Q E h) (fun cdv A outer s H vs Q E hr h => ⟨t_are_within_lines_costs K E, (have hu := hr.units; (pss_cons (ps_set (i := 4) sc_are_within_lines_costs.nd rfl (Or.inl rfl) (pe_fo (ok_bound_beyond C) (hr.mono (by decide)) (by rfl) (passes_call (takes_of rfl rfl rfl rfl) fun _ _ _ _ h => h) (ha := (pa_cons (pv 0) (pa_cons (pv 3) pa_nil))))) (pss_cons (ps_set (i := 5) sc_are_within_lines_costs.nd rfl (Or.inl rfl) (pe_fo (ok_bounded_prices C) (hr.mono (by decide)) (by rfl) (passes_call (takes_of rfl rfl rfl rfl) fun _ _ _ _ h => h) (ha := (pa_cons (pv 0) (pa_cons (pv 4) pa_nil))))) (pss_cons (ps_set (i := 6) sc_are_within_lines_costs.nd rfl (Or.inl rfl) (pe_fo (ok_numbers_of C) (hr.mono (by decide)) (by rfl) (passes_call (takes_of rfl rfl rfl rfl) fun _ _ _ _ h => h) (ha := (pa_cons (pe_ix ix_u (pv 3) pe_int (fun _ _ => rfl)) (pa_cons (pe_glob (by rfl) C.g_WAYS rfl) (pa_cons (pv 4) pa_nil)))))) (pss_cons (ps_setLc (i := 7) (own := [("six", 9)]) (g := (gName 9)) (tt := tYes) rfl sc_are_within_lines_costs.nd rfl rfl (by exact sw_true rfl rfl rfl (by decide +kernel)) (pi_seq (pv 5)) (blkOk_by (N := n_are_within_lines_costs) (sc := defScope s_are_within_lines_costs) (by decide +kernel)) (fun _ _ _ _ _ => (pg_name (i := 9) sc_are_within_lines_costs.nd rfl (Or.inl rfl))) (fun _ _ _ _ _ => pts_nil) (fun _ _ _ _ _ => (pe_fo (ok_turned C) (hr.mono (by decide)) (by rfl) passL (ha := (pa_cons (pv 9) pa_nil))))) (pss_cons (ps_setLc (i := 8) (own := [("six", 9)]) (g := (gName 9)) (tt := tYes) rfl sc_are_within_lines_costs.nd rfl rfl (by exact sw_true rfl rfl rfl (by decide +kernel)) (pi_seq (pv 6)) (blkOk_by (N := n_are_within_lines_costs) (sc := defScope s_are_within_lines_costs) (by decide +kernel)) (fun _ _ _ _ _ => (pg_name (i := 9) sc_are_within_lines_costs.nd rfl (Or.inl rfl))) (fun _ _ _ _ _ => pts_nil) (fun _ _ _ _ _ => (pe_fo (ok_turned C) (hr.mono (by decide)) (by rfl) passL (ha := (pa_cons (pv 9) pa_nil))))) (pss_one (ps_ret (pe_and (pe_fo (ok__are_within_sums C) (hr.mono (by decide)) (by rfl) (passes_call (takes_of rfl rfl rfl rfl) fun _ _ _ _ h => h) (ha := (pa_cons (pv 1) (pa_cons (pv 5) (pa_cons (pv 6) (pa_cons (pe_fo (ok_numbers_of C) (hr.mono (by decide)) (by rfl) (passes_call (takes_of rfl rfl rfl rfl) fun _ _ _ _ h => h) (ha := (pa_cons (pe_ix ix_u (pv 3) pe_int (fun _ _ => rfl)) (pa_cons (pe_glob (by rfl) C.g_PLACES rfl) (pa_cons (pv 4) pa_nil))))) pa_nil)))))) (pe_one (pe_fo (ok__are_within_sums C) (hr.mono (by decide)) (by rfl) (passes_call (takes_of rfl rfl rfl rfl) fun _ _ _ _ h => h) (ha := (pa_cons (pv 2) (pa_cons (pv 7) (pa_cons (pv 8) (pa_cons (pe_fo (ok_numbers_of C) (hr.mono (by decide)) (by rfl) (passes_call (takes_of rfl rfl rfl rfl) fun _ _ _ _ h => h) (ha := (pa_cons (pe_ix ix_u (pv 3) pe_int (fun _ _ => rfl)) (pa_cons (pe_glob (by rfl) C.g_PLACES rfl) (pa_cons (pv 4) pa_nil))))) pa_nil)))))))))))))))), read_are_within_lines_costs h⟩), F.bindsN fun _ _ _ _ _ _ us hl => match us, hl with | [_, _, _, _], _ => rfl⟩, C.g_are_within_lines_costs, F.kp⟩
theorem ok_check_both (C : Ct K w mg) : GoodO P w K mg base 6 "check_both" ["yard", "start", "goal"] (sp_check_both K) := by
  obtain ⟨fd, F⟩ := C.says.def_ 47 (d := d_check_both) rfl
  exact ⟨⟨fd, F.ok (k := 5) sc_check_both (fun vs H Q E h => sp3_len vs H Q E h) (fun cdv A outer s H vs Q E hr h => ⟨t_check_both K E, (have hu := hr.units; (pss_cons (ps_expr (pe_fo (ok_check_arrangement C) (hr.mono (by decide)) (by rfl) (passes_call (takes_of rfl rfl rfl rfl) fun _ _ _ _ h => h) (ha := (pa_cons (pv 0) (pa_cons (pv 1) pa_nil))))) (pss_one (ps_expr (pe_fo (ok_check_arrangement C) (hr.mono (by decide)) (by rfl) (passes_call (takes_of rfl rfl rfl rfl) fun _ _ _ _ h => h) (ha := (pa_cons (pv 0) (pa_cons (pv 2) pa_nil)))))))), read_check_both C.F h⟩), F.bindsN fun _ _ _ _ _ _ us hl => match us, hl with | [_, _, _], _ => rfl⟩, C.g_check_both, F.kp⟩
theorem ok_are_within_lines_levels (C : Ct K w mg) : GoodO P w K mg base 6 "are_within_lines_levels" ["yard", "paper"] (sp_are_within_lines_levels K) := by
  obtain ⟨fd, F⟩ := C.says.def_ 41 (d := d_are_within_lines_levels) rfl
  exact ⟨⟨fd, F.ok (k := 5) sc_are_within_lines_levels (fun vs H Q E h => sp2_len vs H Q E h) (fun cdv A outer s H vs Q E hr h => ⟨t_are_within_lines_levels K E, (have hu := hr.units; (pss_cons (ps_set (i := 2) sc_are_within_lines_levels.nd rfl (Or.inl rfl) (pe_fo (ok_bound_beyond C) (hr.mono (by decide)) (by rfl) (passes_call (takes_of rfl rfl rfl rfl) fun _ _ _ _ h => h) (ha := (pa_cons (pv 0) (pa_cons (pe_lst (pa_cons (pv 1) pa_nil)) pa_nil))))) (pss_cons (ps_set (i := 3) sc_are_within_lines_levels.nd rfl (Or.inl rfl) (pe_fo (ok_numbers_of C) (hr.mono (by decide)) (by rfl) (passes_call (takes_of rfl rfl rfl rfl) fun _ _ _ _ h => h) (ha := (pa_cons (pv 1) (pa_cons (pe_glob (by rfl) C.g_WAYS rfl) (pa_cons (pv 2) pa_nil)))))) (pss_cons (ps_set (i := 4) sc_are_within_lines_levels.nd rfl (Or.inl rfl) (pe_fo (ok_bounded_prices C) (hr.mono (by decide)) (by rfl) (passes_call (takes_of rfl rfl rfl rfl) fun _ _ _ _ h => h) (ha := (pa_cons (pv 0) (pa_cons (pv 2) pa_nil))))) (pss_one (ps_ret (pe_fo (ok_are_within C) (hr.mono (by decide)) (by rfl) (passes_call (takes_of rfl rfl rfl rfl) fun _ _ _ _ h => h) (ha := (pa_cons (pv 3) (pa_cons (pe_lc (own := [("six", 5), ("below", 6)]) (g := (gTup K 2 (gCons (gName 5) (gCons (gName 6) gNil)))) (tt := tYes) rfl sc_are_within_lines_levels.nd (pi_zipV (by rfl) C.n_zip (pa_cons (pv 4) (pa_cons (pv 3) pa_nil))) (blkOk_by (N := n_are_within_lines_levels) (sc := defScope s_are_within_lines_levels) (by decide +kernel)) (fun _ _ _ _ _ => (pg_tup (by rfl) (pgs_cons (pg_name (i := 5) sc_are_within_lines_levels.nd rfl (Or.inl rfl)) (pgs_cons (pg_name (i := 6) sc_are_within_lines_levels.nd rfl (Or.inl rfl)) pgs_nil)))) (fun _ _ _ _ _ => pts_nil) (fun _ _ _ _ _ => (pe_fo (ok_towers_above C) (hr.mono (by decide)) (by rfl) passL (ha := (pa_cons (pv 5) (pa_cons (pv 6) pa_nil)))))) pa_nil)))))))))), read_are_within_lines_levels C.F h⟩), F.bindsN fun _ _ _ _ _ _ us hl => match us, hl with | [_, _], _ => rfl⟩, C.g_are_within_lines_levels, F.kp⟩
theorem ok_is_paper (C : Ct K w mg) : GoodO P w K mg base 7 "is_paper" ["yard", "value"] (sp_is_paper K) := by
  obtain ⟨fd, F⟩ := C.says.def_ 40 (d := d_is_paper) rfl
  exact ⟨⟨fd, F.ok (k := 6) sc_is_paper (fun vs H Q E h => sp2_len vs H Q E h) (fun cdv A outer s H vs Q E hr h => ⟨t_is_paper K E, (have hu := hr.units; (pss_cons (ps_expr (pe_fo (ok_check_yard C) (hr.mono (by decide)) (by rfl) (passes_call (takes_of rfl rfl rfl rfl) fun _ _ _ _ h => h) (ha := (pa_cons (pv 0) pa_nil)))) (pss_one (ps_ret (pe_and (pe_fo (ok_are_levels C) (hr.mono (by decide)) (by rfl) (passes_call (takes_of rfl rfl rfl rfl) fun _ _ _ _ h => h) (ha := (pa_cons (pv 1) (pa_cons (pe_op op_uAdd (pe_lenY (ok_Yard_len C) (hr.mono (by decide)) (by rfl) C.n_len (pa_cons (pv 0) pa_nil)) pe_int) (pa_cons (pe_glob (by rfl) C.g_WAYS rfl) pa_nil))))) (pe_one (pe_fo (ok_are_within_lines_levels C) (hr.mono (by decide)) (by rfl) (passes_call (takes_of rfl rfl rfl rfl) fun _ _ _ _ h => h) (ha := (pa_cons (pv 0) (pa_cons (pv 1) pa_nil)))))))))), read_is_paper C.F h⟩), F.bindsN fun _ _ _ _ _ _ us hl => match us, hl with | [_, _], _ => rfl⟩, C.g_is_paper, F.kp⟩
theorem ok_is_cost_paper (C : Ct K w mg) : GoodO P w K mg base 8 "is_cost_paper" ["yard", "start", "goal", "value"] (sp_is_cost_paper K) := by
  obtain ⟨fd, F⟩ := C.says.def_ 53 (d := d_is_cost_paper) rfl
  exact ⟨⟨fd, F.ok (k := 7) sc_is_cost_paper (fun vs H Q E h => sp4_len vs H Q E h) (fun cdv A outer s H vs Q E hr h => ⟨t_is_cost_paper K E, (have hu := hr.units; (pss_cons (ps_expr (pe_fo (ok_check_both C) (hr.mono (by decide)) (by rfl) (passes_call (takes_of rfl rfl rfl rfl) fun _ _ _ _ h => h) (ha := (pa_cons (pv 0) (pa_cons (pv 1) (pa_cons (pv 2) pa_nil)))))) (pss_one (ps_ret (pe_and (pe_callB call_uIsi (by rfl) C.n_isinstance (by decide +kernel) (pa_cons (pv 3) (pa_cons (pe_bltn (v := .ty "tuple") (by rfl) C.n_tuple (by decide +kernel) rfl) pa_nil))) (pe_and (pe_cmpR (op_uEq hu) (pe_callB call_uLen (by rfl) C.n_len boot_len (pa_cons (pv 3) pa_nil)) pe_int (by rfl)) (pe_and (pe_fo (ok_is_paper C) (hr.mono (by decide)) (by rfl) (passes_call (takes_of rfl rfl rfl rfl) fun _ _ _ _ h => h) (ha := (pa_cons (pv 0) (pa_cons (pe_ix ix_u (pv 3) pe_int (fun _ _ => rfl)) pa_nil)))) (pe_and (pe_fo (ok_are_levels C) (hr.mono (by decide)) (by rfl) (passes_call (takes_of rfl rfl rfl rfl) fun _ _ _ _ h => h) (ha := (pa_cons (pe_ix ix_u (pv 3) pe_int (fun _ _ => rfl)) (pa_cons (pe_op op_uAdd (pe_lenY (ok_Yard_len C) (hr.mono (by decide)) (by rfl) C.n_len (pa_cons (pv 0) pa_nil)) pe_int) (pa_cons (pe_glob (by rfl) C.g_PLACES rfl) pa_nil))))) (pe_and (pe_fo (ok_are_levels C) (hr.mono (by decide)) (by rfl) (passes_call (takes_of rfl rfl rfl rfl) fun _ _ _ _ h => h) (ha := (pa_cons (pe_ix ix_u (pv 3) pe_int (fun _ _ => rfl)) (pa_cons (pe_op op_uAdd (pe_lenY (ok_Yard_len C) (hr.mono (by decide)) (by rfl) C.n_len (pa_cons (pv 0) pa_nil)) pe_int) (pa_cons (pe_glob (by rfl) C.g_PLACES rfl) pa_nil))))) (pe_one (pe_fo (ok_are_within_lines_costs C) (hr.mono (by decide)) (by rfl) (passes_call (takes_of rfl rfl rfl rfl) fun _ _ _ _ h => h) (ha := (pa_cons (pv 0) (pa_cons (pv 1) (pa_cons (pv 2) (pa_cons (pv 3) pa_nil)))))))))))))))), read_is_cost_paper C.F h⟩), F.bindsN fun _ _ _ _ _ _ us hl => match us, hl with | [_, _, _, _], _ => rfl⟩, C.g_is_cost_paper, F.kp⟩
theorem ok_first_apart (C : Ct K w mg) : GoodO P w K mg base 1 "first_apart" ["starts", "goals"] (sp_first_apart K) := by
  obtain ⟨fd, F⟩ := C.says.def_ 19 (d := d_first_apart) rfl
  exact ⟨⟨fd, F.ok (k := 0) sc_first_apart (fun vs H Q E h => sp2_len vs H Q E h) (fun cdv A outer s H vs Q E hr h => ⟨t_first_apart K E, (have hu := hr.units; (pss_cons (ps_for (passes_of rfl) rfl (pi_enumU (by rfl) C.n_enumerate (pa_cons (pv 0) pa_nil)) (pg_tup (by rfl) (pgs_cons (pg_name (i := 2) sc_first_apart.nd rfl (Or.inr rfl)) (pgs_cons (pg_name (i := 3) sc_first_apart.nd rfl (Or.inl rfl)) pgs_nil))) (pss_one (ps_if (PW.pt (pw_and (pt_cmpR (op_uNe hu) (pv 3) (pe_ix ix_u (pv 1) (pv 2) (fun _ _ => rfl)) (by rfl)) (pw_and1 (pt_not (pt_val (pe_callB (cr_any rfl) (by rfl) C.n_any (by decide +kernel) (pa_cons (pe_lc (own := [("place", 4)]) (g := (gName 4)) (tt := tYes) rfl sc_first_apart.nd (pi_str (pv 3)) (blkOk_by (N := n_first_apart) (sc := defScope s_first_apart) (by decide +kernel)) (fun _ _ _ _ _ => (pg_name (i := 4) sc_first_apart.nd rfl (Or.inl rfl))) (fun _ _ _ _ _ => pts_nil) (fun _ _ _ _ _ => (pe_cmpR op_uIn (pv 4) (pe_ix ix_u (pv 1) (pv 2) (fun _ _ => rfl)) (by rfl)))) pa_nil))))))) (pss_one (ps_ret (pv 2))) pss_nil))) (pss_one (ps_ret pe_non)))), read_first_apart C.F h⟩), F.bindsN fun _ _ _ _ _ _ us hl => match us, hl with | [_, _], _ => rfl⟩, C.g_first_apart, F.kp⟩
theorem ok_largest_moving (C : Ct K w mg) : GoodO P w K mg base 7 "largest_moving" ["yard", "start", "goal"] (sp_largest_moving K) := by
  obtain ⟨fd, F⟩ := C.says.def_ 51 (d := d_largest_moving) rfl
  exact ⟨⟨fd, F.ok (k := 6) sc_largest_moving (fun vs H Q E h => sp3_len vs H Q E h) (fun cdv A outer s H vs Q E hr h => ⟨t_largest_moving K E, (have hu := hr.units; (pss_cons (ps_expr (pe_fo (ok_check_both C) (hr.mono (by decide)) (by rfl) (passes_call (takes_of rfl rfl rfl rfl) fun _ _ _ _ h => h) (ha := (pa_cons (pv 0) (pa_cons (pv 1) (pa_cons (pv 2) pa_nil)))))) (pss_one (ps_ret (pe_fo (ok_first_apart C) (hr.mono (by decide)) (by rfl) (passes_call (takes_of rfl rfl rfl rfl) fun _ _ _ _ h => h) (ha := (pa_cons (pv 1) (pa_cons (pv 2) pa_nil)))))))), read_largest_moving h⟩), F.bindsN fun _ _ _ _ _ _ us hl => match us, hl with | [_, _, _], _ => rfl⟩, C.g_largest_moving, F.kp⟩
theorem ok_both_lines (C : Ct K w mg) : GoodO P w K mg base 1 "both_lines" ["way", "prices", "towers", "to_towers", "from_towers"] (sp_both_lines K) := by
  obtain ⟨fd, F⟩ := C.says.def_ 4 (d := d_both_lines) rfl
  exact ⟨⟨fd, F.ok (k := 0) sc_both_lines (fun vs H Q E h => sp5_len vs H Q E h) (fun cdv A outer s H vs Q E hr h => ⟨t_both_lines K E, (have hu := hr.units; (pss_cons (ps_asg (pe_ix (ix_turn C.t__TURNS) (pe_glob (by rfl) C.g__TURNS rfl) (pv 0) (fun _ _ => rfl)) (pg_tup (by rfl) (pgs_cons (pg_name (i := 5) sc_both_lines.nd rfl (Or.inl rfl)) (pgs_cons (pg_name (i := 6) sc_both_lines.nd rfl (Or.inl rfl)) (pgs_cons (pg_name (i := 7) sc_both_lines.nd rfl (Or.inl rfl)) (pgs_cons (pg_name (i := 8) sc_both_lines.nd rfl (Or.inl rfl)) (pgs_cons (pg_name (i := 9) sc_both_lines.nd rfl (Or.inl rfl)) (pgs_cons (pg_name (i := 10) sc_both_lines.nd rfl (Or.inl rfl)) (pgs_cons (pg_name (i := 11) sc_both_lines.nd rfl (Or.inl rfl)) pgs_nil))))))))) (pss_one (ps_ret (pe_tup (pa_cons (pe_op op_uAdd (pe_op op_uAdd (pe_ix ix_u (pv 3) (pv 11) (fun _ _ => rfl)) (pe_ix ix_u (pv 1) (pv 5) (fun _ _ => rfl))) (pe_ix ix_u (pv 4) (pv 11) (fun _ _ => rfl))) (pa_cons (pe_op op_uAdd (pe_op op_uAdd (pe_op op_uAdd (pe_op op_uAdd (pe_ix ix_u (pv 3) (pv 10) (fun _ _ => rfl)) (pe_ix ix_u (pv 1) (pv 6) (fun _ _ => rfl))) (pe_ix ix_u (pv 2) (pv 8) (fun _ _ => rfl))) (pe_ix ix_u (pv 1) (pv 7) (fun _ _ => rfl))) (pe_ix ix_u (pv 4) (pv 9) (fun _ _ => rfl))) pa_nil))))))), read_both_lines C.F h⟩), F.bindsN fun _ _ _ _ _ _ us hl => match us, hl with | [_, _, _, _, _], _ => rfl⟩, C.g_both_lines, F.kp⟩
theorem ok_Reckoning_cheapest (C : Ct K w mg) : GoodM P w K mg base 5 "Reckoning" "cheapest" ["self", "starts", "goals"] (sp_Reckoning_cheapest K) := by
  obtain ⟨fd, F⟩ := C.says.def_ 16 (d := d_Reckoning_cheapest) rfl
  exact ⟨⟨fd, F.ok (k := 4) sc_Reckoning_cheapest (fun vs H Q E h => sp3_len vs H Q E h) (fun cdv A outer s H vs Q E hr h => ⟨t_Reckoning_cheapest K E, (have hu := hr.units; (pss_cons (ps_set (i := 3) sc_Reckoning_cheapest.nd rfl (Or.inr rfl) (pe_fo (ok_first_apart C) (hr.mono (by decide)) (by rfl) (passes_call (takes_of rfl rfl rfl rfl) fun _ _ _ _ h => h) (ha := (pa_cons (pv 1) (pa_cons (pv 2) pa_nil))))) (pss_cons (ps_if (pt_cmpR op_uIs (pv 3) pe_non (by rfl)) (pss_one (ps_ret pe_int)) pss_nil) (pss_cons (ps_set (i := 4) sc_Reckoning_cheapest.nd rfl (Or.inl rfl) (pe_op op_uSub (pe_op op_uSub (pe_callB call_uLen (by rfl) C.n_len boot_len (pa_cons (pv 1) pa_nil)) pe_int) (pv 3))) (pss_cons (ps_asg (pe_tup (pa_cons (pe_ix ix_u (pe_fld (pv 0) rfl) (pv 4) (fun _ _ => rfl)) (pa_cons (pe_ix ix_u (pe_fld (pv 0) rfl) (pv 4) (fun _ _ => rfl)) pa_nil))) (pg_tup (by rfl) (pgs_cons (pg_name (i := 5) sc_Reckoning_cheapest.nd rfl (Or.inr rfl)) (pgs_cons (pg_name (i := 6) sc_Reckoning_cheapest.nd rfl (Or.inr rfl)) pgs_nil)))) (pss_cons (ps_set (i := 7) sc_Reckoning_cheapest.nd rfl (Or.inr rfl) (pe_ix ix_u (Exists.elim (ok_Reckoning_to_towers C).fn fun _ z => pe_meth (pv 0) (ok_Reckoning_to_towers (P := P) (base := base) C).cl (ok_Reckoning_to_towers (P := P) (base := base) C).mt z.1 (hr.mono (by decide)) z.2 .nil (passes_call (takes_of rfl rfl rfl rfl) fun _ _ _ _ h => h) (pa_cons (pe_slice sl_u (pv 1) (po_some (pe_op op_uAdd (pv 3) pe_int)) po_none) pa_nil)) (pe_un un_neg pe_int) (fun _ _ => rfl))) (pss_cons (ps_set (i := 8) sc_Reckoning_cheapest.nd rfl (Or.inr rfl) (pe_ix ix_u (Exists.elim (ok_Reckoning_from_towers C).fn fun _ z => pe_meth (pv 0) (ok_Reckoning_from_towers (P := P) (base := base) C).cl (ok_Reckoning_from_towers (P := P) (base := base) C).mt z.1 (hr.mono (by decide)) z.2 .nil (passes_call (takes_of rfl rfl rfl rfl) fun _ _ _ _ h => h) (pa_cons (pe_slice sl_u (pv 2) (po_some (pe_op op_uAdd (pv 3) pe_int)) po_none) pa_nil)) (pe_un un_neg pe_int) (fun _ _ => rfl))) (pss_one (ps_ret (pe_callB (cr_min rfl) (by rfl) C.n_min (by decide +kernel) (pa_cons (pe_lc2 (own := [("here", 9), ("there", 10)]) (vs1 := [10]) rfl sc_Reckoning_cheapest.nd (pi_str (pe_ix ix_u (pv 1) (pv 3) (fun _ _ => rfl))) (blkOk_by (N := n_Reckoning_cheapest) (sc := defScope s_Reckoning_cheapest) (by decide +kernel)) (by decide) (fun _ _ _ _ _ => (pg_name (i := 9) sc_Reckoning_cheapest.nd rfl (Or.inl rfl))) (fun _ _ _ _ _ => pts_nil) (fun _ _ _ _ _ => (pi_str (pe_ix ix_u (pv 2) (pv 3) (fun _ _ => rfl)))) (fun _ _ _ _ _ => (pg_name (i := 10) sc_Reckoning_cheapest.nd rfl (Or.inl rfl))) (fun _ _ _ _ _ => pts_nil) (fun _ _ _ _ _ => (pe_callB (call_minT rfl hu) (by rfl) C.n_min (by decide +kernel) (pa_cons (pe_fo (ok_both_lines C) (hr.mono (by decide)) (by rfl) passL (ha := (pa_cons (pe_op op_uAdd (pv 9) (pv 10)) (pa_cons (pv 5) (pa_cons (pv 6) (pa_cons (pv 7) (pa_cons (pv 8) pa_nil))))))) pa_nil)))) pa_nil))))))))))), read_Reckoning_cheapest C.F C.kr h⟩), F.bindsN fun _ _ _ _ _ _ us hl => match us, hl with | [_, _, _], _ => rfl⟩, C.m_Reckoning_cheapest, C.kr.cl⟩
theorem ok_Reckoning_told (C : Ct K w mg) : GoodM P w K mg base 1 "Reckoning" "told" ["self", "number"] (sp_Reckoning_told K) := by
  obtain ⟨fd, F⟩ := C.says.def_ 17 (d := d_Reckoning_told) rfl
  exact ⟨⟨fd, F.ok (k := 0) sc_Reckoning_told (fun vs H Q E h => sp2_len vs H Q E h) (fun cdv A outer s H vs Q E hr h => ⟨t_Reckoning_told K E, (have hu := hr.units; (pss_one (ps_ret (pe_ifExp (pt_cmpR op_uLt (pv 1) (pe_fld (pv 0) rfl) (by rfl)) (pv 1) pe_non)))), read_Reckoning_told C.F C.kr h⟩), F.bindsN fun _ _ _ _ _ _ us hl => match us, hl with | [_, _], _ => rfl⟩, C.m_Reckoning_told, C.kr.cl⟩
theorem ok_least (C : Ct K w mg) : GoodO P w K mg base 7 "least" ["yard", "start", "goal"] (sp_least K) := by
  obtain ⟨fd, F⟩ := C.says.def_ 50 (d := d_least) rfl
  exact ⟨⟨fd, F.ok (k := 6) sc_least (fun vs H Q E h => sp3_len vs H Q E h) (fun cdv A outer s H vs Q E hr h => ⟨t_least K E, (have hu := hr.units; (pss_cons (ps_expr (pe_fo (ok_check_both C) (hr.mono (by decide)) (by rfl) (passes_call (takes_of rfl rfl rfl rfl) fun _ _ _ _ h => h) (ha := (pa_cons (pv 0) (pa_cons (pv 1) (pa_cons (pv 2) pa_nil)))))) (pss_cons (ps_set (i := 3) sc_least.nd rfl (Or.inl rfl) (Exists.elim (ok_Yard_reckoning C).fn fun _ z => pe_meth0 (pv 0) (ok_Yard_reckoning (P := P) (base := base) C).cl (ok_Yard_reckoning (P := P) (base := base) C).mt z.1 (hr.mono (by decide)) z.2 .nil (passes_call (takes_of rfl rfl rfl rfl) fun _ _ _ _ h => h))) (pss_one (ps_ret (Exists.elim (ok_Reckoning_told C).fn fun _ z => pe_meth (pv 3) (ok_Reckoning_told (P := P) (base := base) C).cl (ok_Reckoning_told (P := P) (base := base) C).mt z.1 (hr.mono (by decide)) z.2 .nil (passes_call (takes_of rfl rfl rfl rfl) fun _ _ _ _ h => h) (pa_cons (Exists.elim (ok_Reckoning_cheapest C).fn fun _ z => pe_meth (pv 3) (ok_Reckoning_cheapest (P := P) (base := base) C).cl (ok_Reckoning_cheapest (P := P) (base := base) C).mt z.1 (hr.mono (by decide)) z.2 .nil (passes_call (takes_of rfl rfl rfl rfl) fun _ _ _ _ h => h) (pa_cons (pv 1) (pa_cons (pv 2) pa_nil))) pa_nil))))))), read_least h⟩), F.bindsN fun _ _ _ _ _ _ us hl => match us, hl with | [_, _, _], _ => rfl⟩, C.g_least, F.kp⟩
theorem ok_paper (C : Ct K w mg) : GoodO P w K mg base 7 "paper" ["yard", "start", "goal"] (sp_paper K) := by
  obtain ⟨fd, F⟩ := C.says.def_ 52 (d := d_paper) rfl
  exact ⟨⟨fd, F.ok (k := 6) sc_paper (fun vs H Q E h => sp3_len vs H Q E h) (fun cdv A outer s H vs Q E hr h => ⟨t_paper K E, (have hu := hr.units; (pss_cons (ps_expr (pe_fo (ok_check_both C) (hr.mono (by decide)) (by rfl) (passes_call (takes_of rfl rfl rfl rfl) fun _ _ _ _ h => h) (ha := (pa_cons (pv 0) (pa_cons (pv 1) (pa_cons (pv 2) pa_nil)))))) (pss_cons (ps_set (i := 3) sc_paper.nd rfl (Or.inr rfl) (Exists.elim (ok_Yard_reckoning C).fn fun _ z => pe_meth0 (pv 0) (ok_Yard_reckoning (P := P) (base := base) C).cl (ok_Yard_reckoning (P := P) (base := base) C).mt z.1 (hr.mono (by decide)) z.2 .nil (passes_call (takes_of rfl rfl rfl rfl) fun _ _ _ _ h => h))) (pss_one (ps_ret (pe_tup (pa_cons (pe_lc (own := [("towers", 4)]) (g := (gName 4)) (tt := tYes) rfl sc_paper.nd (pi_seq (pe_fld (pv 3) rfl)) (blkOk_by (N := n_paper) (sc := defScope s_paper) (by decide +kernel)) (fun _ _ _ _ _ => (pg_name (i := 4) sc_paper.nd rfl (Or.inl rfl))) (fun _ _ _ _ _ => pts_nil) (fun _ _ _ _ _ => (Exists.elim (ok_Reckoning_named C).fn fun _ z => pe_meth (pv 3) (ok_Reckoning_named (P := P) (base := base) C).cl (ok_Reckoning_named (P := P) (base := base) C).mt z.1 (hr.mono (by decide)) z.2 .nil passL (pa_cons (pe_glob (by rfl) C.g_WAYS rfl) (pa_cons (pv 4) pa_nil))))) (pa_cons (pe_lc (own := [("level", 5)]) (g := (gName 5)) (tt := tYes) rfl sc_paper.nd (pi_seq (Exists.elim (ok_Reckoning_to_towers C).fn fun _ z => pe_meth (pv 3) (ok_Reckoning_to_towers (P := P) (base := base) C).cl (ok_Reckoning_to_towers (P := P) (base := base) C).mt z.1 (hr.mono (by decide)) z.2 .nil (passes_call (takes_of rfl rfl rfl rfl) fun _ _ _ _ h => h) (pa_cons (pv 1) pa_nil))) (blkOk_by (N := n_paper) (sc := defScope s_paper) (by decide +kernel)) (fun _ _ _ _ _ => (pg_name (i := 5) sc_paper.nd rfl (Or.inl rfl))) (fun _ _ _ _ _ => pts_nil) (fun _ _ _ _ _ => (Exists.elim (ok_Reckoning_named C).fn fun _ z => pe_meth (pv 3) (ok_Reckoning_named (P := P) (base := base) C).cl (ok_Reckoning_named (P := P) (base := base) C).mt z.1 (hr.mono (by decide)) z.2 .nil passL (pa_cons (pe_glob (by rfl) C.g_PLACES rfl) (pa_cons (pv 5) pa_nil))))) (pa_cons (pe_lc (own := [("level", 5)]) (g := (gName 5)) (tt := tYes) rfl sc_paper.nd (pi_seq (Exists.elim (ok_Reckoning_from_towers C).fn fun _ z => pe_meth (pv 3) (ok_Reckoning_from_towers (P := P) (base := base) C).cl (ok_Reckoning_from_towers (P := P) (base := base) C).mt z.1 (hr.mono (by decide)) z.2 .nil (passes_call (takes_of rfl rfl rfl rfl) fun _ _ _ _ h => h) (pa_cons (pv 2) pa_nil))) (blkOk_by (N := n_paper) (sc := defScope s_paper) (by decide +kernel)) (fun _ _ _ _ _ => (pg_name (i := 5) sc_paper.nd rfl (Or.inl rfl))) (fun _ _ _ _ _ => pts_nil) (fun _ _ _ _ _ => (Exists.elim (ok_Reckoning_named C).fn fun _ z => pe_meth (pv 3) (ok_Reckoning_named (P := P) (base := base) C).cl (ok_Reckoning_named (P := P) (base := base) C).mt z.1 (hr.mono (by decide)) z.2 .nil passL (pa_cons (pe_glob (by rfl) C.g_PLACES rfl) (pa_cons (pv 5) pa_nil))))) pa_nil))))))))), read_paper h⟩), F.bindsN fun _ _ _ _ _ _ us hl => match us, hl with | [_, _, _], _ => rfl⟩, C.g_paper, F.kp⟩
theorem ok_from_each_tower (C : Ct K w mg) : GoodO P w K mg base 1 "from_each_tower" ["towers"] (sp_from_each_tower K) := by
  obtain ⟨fd, F⟩ := C.says.def_ 9 (d := d_from_each_tower) rfl
  exact ⟨⟨fd, F.ok (k := 0) sc_from_each_tower (fun vs H Q E h => sp1_len vs H Q E h) (fun cdv A outer s H vs Q E hr h => ⟨t_from_each_tower K E, (have hu := hr.units; (pss_cons (ps_asg (pv 0) (pg_tup (by rfl) (pgs_cons (pg_name (i := 1) sc_from_each_tower.nd rfl (Or.inl rfl)) (pgs_cons (pg_name (i := 2) sc_from_each_tower.nd rfl (Or.inl rfl)) (pgs_cons (pg_name (i := 3) sc_from_each_tower.nd rfl (Or.inl rfl)) (pgs_cons (pg_name (i := 4) sc_from_each_tower.nd rfl (Or.inl rfl)) (pgs_cons (pg_name (i := 5) sc_from_each_tower.nd rfl (Or.inl rfl)) (pgs_cons (pg_name (i := 6) sc_from_each_tower.nd rfl (Or.inl rfl)) pgs_nil)))))))) (pss_one (ps_ret (pe_disp (pps_cons pe_str (pe_tup (pa_cons pe_int (pa_cons (pv 1) (pa_cons (pv 2) pa_nil)))) (pps_cons pe_str (pe_tup (pa_cons (pv 3) (pa_cons pe_int (pa_cons (pv 4) pa_nil)))) (pps_cons pe_str (pe_tup (pa_cons (pv 5) (pa_cons (pv 6) (pa_cons pe_int pa_nil)))) pps_nil))) rfl rfl (by simp) (by simp)))))), read_from_each_tower C.F h⟩), F.bindsN fun _ _ _ _ _ _ us hl => match us, hl with | [_], _ => rfl⟩, C.g_from_each_tower, F.kp⟩
theorem ok__straight_ways (C : Ct K w mg) : GoodO P w K mg base 2 "_straight_ways" ["prices", "towers", "bound"] (sp__straight_ways K) := by
  obtain ⟨fd, F⟩ := C.says.def_ 44 (d := d__straight_ways) rfl
  exact ⟨⟨fd, F.ok (k := 1) sc__straight_ways (fun vs H Q E h => sp3_len vs H Q E h) (fun cdv A outer s H vs Q E hr h => ⟨t__straight_ways K E, (have hu := hr.units; (pss_cons (ps_set (i := 3) sc__straight_ways.nd rfl (Or.inl rfl) (pe_fo (ok_from_each_tower C) (hr.mono (by decide)) (by rfl) (passes_call (takes_of rfl rfl rfl rfl) fun _ _ _ _ h => h) (ha := (pa_cons (pv 1) pa_nil)))) (pss_cons (ps_set (i := 4) sc__straight_ways.nd rfl (Or.inl rfl) (pe_fo (ok_from_each_tower C) (hr.mono (by decide)) (by rfl) (passes_call (takes_of rfl rfl rfl rfl) fun _ _ _ _ h => h) (ha := (pa_cons (pe_fo (ok_turned C) (hr.mono (by decide)) (by rfl) (passes_call (takes_of rfl rfl rfl rfl) fun _ _ _ _ h => h) (ha := (pa_cons (pv 1) pa_nil))) pa_nil)))) (pss_cons (ps_set (i := 5) sc__straight_ways.nd rfl (Or.inl rfl) (pe_lst pa_nil)) (pss_cons (ps_for (passes_of rfl) rfl (pi_seq (pe_glob (by rfl) C.g_WAYS rfl)) (pg_name (i := 6) sc__straight_ways.nd rfl (Or.inl rfl)) (pss_cons (ps_asg (pe_fo (ok_both_lines C) (hr.mono (by decide)) (by rfl) (passes_call (takes_of rfl rfl rfl rfl) fun _ _ _ _ h => h) (ha := (pa_cons (pv 6) (pa_cons (pv 0) (pa_cons (pv 1) (pa_cons (pe_dget (Nat.lt_of_le_of_lt (Nat.add_le_add_left (by decide) _) hu) (pv 3) (pe_ix ix_u (pv 6) pe_int (fun _ _ => rfl)) (fun _ _ => rfl)) (pa_cons (pe_dget (Nat.lt_of_le_of_lt (Nat.add_le_add_left (by decide) _) hu) (pv 4) (pe_ix ix_u (pv 6) pe_int (fun _ _ => rfl)) (fun _ _ => rfl)) pa_nil))))))) (pg_tup (by rfl) (pgs_cons (pg_name (i := 7) sc__straight_ways.nd rfl (Or.inl rfl)) (pgs_cons (pg_name (i := 8) sc__straight_ways.nd rfl (Or.inl rfl)) pgs_nil)))) (pss_one (ps_if (PW.pt (pw_and (pt_cmpR op_uLt (pv 7) (pv 2) (by rfl)) (pw_and1 (pt_cmpR op_uLe (pv 7) (pv 8) (by rfl))))) (pss_one (ps_expr (pe_bm PySem.F.plainAttrs_list PySem.F.slot_list_append PySem.F.type_list_append mt_append (pv 5) (pa_cons (pv 6) pa_nil)))) pss_nil)))) (pss_one (ps_ret (pv 5)))))))), read__straight_ways C.F h⟩), F.bindsN fun _ _ _ _ _ _ us hl => match us, hl with | [_, _, _], _ => rfl⟩, C.g__straight_ways, F.kp⟩
theorem ok_straight_ways (C : Ct K w mg) : GoodO P w K mg base 5 "straight_ways" ["yard"] (sp_straight_ways K) := by
  obtain ⟨fd, F⟩ := C.says.def_ 43 (d := d_straight_ways) rfl
  exact ⟨⟨fd, F.ok (k := 4) sc_straight_ways (fun vs H Q E h => sp1_len vs H Q E h) (fun cdv A outer s H vs Q E hr h => ⟨t_straight_ways K E, (have hu := hr.units; (pss_cons (ps_expr (pe_fo (ok_check_yard C) (hr.mono (by decide)) (by rfl) (passes_call (takes_of rfl rfl rfl rfl) fun _ _ _ _ h => h) (ha := (pa_cons (pv 0) pa_nil)))) (pss_cons (ps_set (i := 1) sc_straight_ways.nd rfl (Or.inr rfl) (Exists.elim (ok_Yard_reckoning C).fn fun _ z => pe_meth0 (pv 0) (ok_Yard_reckoning (P := P) (base := base) C).cl (ok_Yard_reckoning (P := P) (base := base) C).mt z.1 (hr.mono (by decide)) z.2 .nil (passes_call (takes_of rfl rfl rfl rfl) fun _ _ _ _ h => h))) (pss_cons (ps_setLc (i := 2) (own := [("prices", 3), ("towers", 4)]) (g := (gTup K 2 (gCons (gName 3) (gCons (gName 4) gNil)))) (tt := tYes) rfl sc_straight_ways.nd rfl rfl (by exact sw_true rfl rfl rfl (by decide +kernel)) (pi_zipV (by rfl) C.n_zip (pa_cons (pe_fld (pv 1) rfl) (pa_cons (pe_fld (pv 1) rfl) pa_nil))) (blkOk_by (N := n_straight_ways) (sc := defScope s_straight_ways) (by decide +kernel)) (fun _ _ _ _ _ => (pg_tup (by rfl) (pgs_cons (pg_name (i := 3) sc_straight_ways.nd rfl (Or.inl rfl)) (pgs_cons (pg_name (i := 4) sc_straight_ways.nd rfl (Or.inl rfl)) pgs_nil)))) (fun _ _ _ _ _ => pts_nil) (fun _ _ _ _ _ => (pe_fo (ok__straight_ways C) (hr.mono (by decide)) (by rfl) passL (ha := (pa_cons (pv 3) (pa_cons (pv 4) (pa_cons (pe_fld (pv 1) rfl) pa_nil))))))) (pss_one (ps_ret (pe_revL (pv 2)))))))), read_straight_ways C.F C.kr h⟩), F.bindsN fun _ _ _ _ _ _ us hl => match us, hl with | [_], _ => rfl⟩, C.g_straight_ways, F.kp⟩
theorem ok_tables (C : Ct K w mg) : GoodO P w K mg base 5 "tables" ["yard"] (sp_tables K) := by
  obtain ⟨fd, F⟩ := C.says.def_ 38 (d := d_tables) rfl
  exact ⟨⟨fd, F.ok (k := 4) sc_tables (fun vs H Q E h => sp1_len vs H Q E h) (fun cdv A outer s H vs Q E hr h => ⟨t_tables K E, (have hu := hr.units; (pss_cons (ps_expr (pe_fo (ok_check_yard C) (hr.mono (by decide)) (by rfl) (passes_call (takes_of rfl rfl rfl rfl) fun _ _ _ _ h => h) (ha := (pa_cons (pv 0) pa_nil)))) (pss_cons (ps_set (i := 1) sc_tables.nd rfl (Or.inr rfl) (Exists.elim (ok_Yard_reckoning C).fn fun _ z => pe_meth0 (pv 0) (ok_Yard_reckoning (P := P) (base := base) C).cl (ok_Yard_reckoning (P := P) (base := base) C).mt z.1 (hr.mono (by decide)) z.2 .nil (passes_call (takes_of rfl rfl rfl rfl) fun _ _ _ _ h => h))) (pss_one (ps_ret (pe_lc (own := [("towers", 2)]) (g := (gName 2)) (tt := tYes) rfl sc_tables.nd (pi_seq (pe_fld (pv 1) rfl)) (blkOk_by (N := n_tables) (sc := defScope s_tables) (by decide +kernel)) (fun _ _ _ _ _ => (pg_name (i := 2) sc_tables.nd rfl (Or.inl rfl))) (fun _ _ _ _ _ => pts_nil) (fun _ _ _ _ _ => (Exists.elim (ok_Reckoning_named C).fn fun _ z => pe_meth (pv 1) (ok_Reckoning_named (P := P) (base := base) C).cl (ok_Reckoning_named (P := P) (base := base) C).mt z.1 (hr.mono (by decide)) z.2 .nil passL (pa_cons (pe_glob (by rfl) C.g_WAYS rfl) (pa_cons (pv 2) pa_nil)))))))))), read_tables C.F C.kr h⟩), F.bindsN fun _ _ _ _ _ _ us hl => match us, hl with | [_], _ => rfl⟩, C.g_tables, F.kp⟩
theorem ok_to_towers (C : Ct K w mg) : GoodO P w K mg base 6 "to_towers" ["yard", "start"] (sp_to_towers K) := by
  obtain ⟨fd, F⟩ := C.says.def_ 48 (d := d_to_towers) rfl
  exact ⟨⟨fd, F.ok (k := 5) sc_to_towers (fun vs H Q E h => sp2_len vs H Q E h) (fun cdv A outer s H vs Q E hr h => ⟨t_to_towers K E, (have hu := hr.units; (pss_cons (ps_expr (pe_fo (ok_check_arrangement C) (hr.mono (by decide)) (by rfl) (passes_call (takes_of rfl rfl rfl rfl) fun _ _ _ _ h => h) (ha := (pa_cons (pv 0) (pa_cons (pv 1) pa_nil))))) (pss_cons (ps_set (i := 2) sc_to_towers.nd rfl (Or.inl rfl) (Exists.elim (ok_Yard_reckoning C).fn fun _ z => pe_meth0 (pv 0) (ok_Yard_reckoning (P := P) (base := base) C).cl (ok_Yard_reckoning (P := P) (base := base) C).mt z.1 (hr.mono (by decide)) z.2 .nil (passes_call (takes_of rfl rfl rfl rfl) fun _ _ _ _ h => h))) (pss_one (ps_ret (Exists.elim (ok_Reckoning_named C).fn fun _ z => pe_meth (pv 2) (ok_Reckoning_named (P := P) (base := base) C).cl (ok_Reckoning_named (P := P) (base := base) C).mt z.1 (hr.mono (by decide)) z.2 .nil (passes_call (takes_of rfl rfl rfl rfl) fun _ _ _ _ h => h) (pa_cons (pe_glob (by rfl) C.g_PLACES rfl) (pa_cons (pe_ix ix_u (Exists.elim (ok_Reckoning_to_towers C).fn fun _ z => pe_meth (pv 2) (ok_Reckoning_to_towers (P := P) (base := base) C).cl (ok_Reckoning_to_towers (P := P) (base := base) C).mt z.1 (hr.mono (by decide)) z.2 .nil (passes_call (takes_of rfl rfl rfl rfl) fun _ _ _ _ h => h) (pa_cons (pv 1) pa_nil)) (pe_un un_neg pe_int) (fun _ _ => rfl)) pa_nil)))))))), read_to_towers h⟩), F.bindsN fun _ _ _ _ _ _ us hl => match us, hl with | [_, _], _ => rfl⟩, C.g_to_towers, F.kp⟩
theorem ok_is_way (C : Ct K w mg) : GoodO P w K mg base 1 "is_way" ["value"] (sp_is_way K) := by
  obtain ⟨fd, F⟩ := C.says.def_ 26 (d := d_is_way) rfl
  exact ⟨⟨fd, F.ok (k := 0) sc_is_way (fun vs H Q E h => sp1_len vs H Q E h) (fun cdv A outer s H vs Q E hr h => ⟨t_is_way K E, (have hu := hr.units; (pss_one (ps_ret (pe_and (pe_callB call_uIsi (by rfl) C.n_isinstance (by decide +kernel) (pa_cons (pv 0) (pa_cons (pe_bltn (v := .ty "str") (by rfl) C.n_str (by decide +kernel) rfl) pa_nil))) (pe_one (pe_cmpR op_uIn (pv 0) (pe_glob (by rfl) C.g_WAYS rfl) (by rfl))))))), read_is_way C.F h⟩), F.bindsN fun _ _ _ _ _ _ us hl => match us, hl with | [_], _ => rfl⟩, C.g_is_way, F.kp⟩
theorem ok_check_way (C : Ct K w mg) : GoodO P w K mg base 3 "check_way" ["way"] (sp_check_way K) := by
  obtain ⟨fd, F⟩ := C.says.def_ 29 (d := d_check_way) rfl
  exact ⟨⟨fd, F.ok (k := 2) sc_check_way (fun vs H Q E h => sp1_len vs H Q E h) (fun cdv A outer s H vs Q E hr h => ⟨t_check_way K E, (have hu := hr.units; (pss_one (ps_if (pt_not (pt_val (pe_fo (ok_is_way C) (hr.mono (by decide)) (by rfl) (passes_call (takes_of rfl rfl rfl rfl) fun _ _ _ _ h => h) (ha := (pa_cons (pv 0) pa_nil))))) (pss_one (ps_rse (okx_InvalidWay C) (hr.mono (by decide)) rfl (takes_of rfl rfl rfl rfl) (by rfl) (pa_cons (pv 0) pa_nil))) pss_nil))), read_check_way C.F h⟩), F.bindsN fun _ _ _ _ _ _ us hl => match us, hl with | [_], _ => rfl⟩, C.g_check_way, F.kp⟩
theorem ok_told_cost (C : Ct K w mg) : GoodO P w K mg base 8 "told_cost" ["yard", "paper", "way"] (sp_told_cost K) := by
  obtain ⟨fd, F⟩ := C.says.def_ 42 (d := d_told_cost) rfl
  exact ⟨⟨fd, F.ok (k := 7) sc_told_cost (fun vs H Q E h => sp3_len vs H Q E h) (fun cdv A outer s H vs Q E hr h => ⟨t_told_cost K E, (have hu := hr.units; (pss_cons (ps_if (pt_not (pt_val (pe_fo (ok_is_paper C) (hr.mono (by decide)) (by rfl) (passes_call (takes_of rfl rfl rfl rfl) fun _ _ _ _ h => h) (ha := (pa_cons (pv 0) (pa_cons (pv 1) pa_nil)))))) (pss_one (ps_rse (okx_InvalidPaper C) (hr.mono (by decide)) rfl (takes_of rfl rfl rfl rfl) (by rfl) (pa_cons (pv 1) pa_nil))) pss_nil) (pss_cons (ps_expr (pe_fo (ok_check_way C) (hr.mono (by decide)) (by rfl) (passes_call (takes_of rfl rfl rfl rfl) fun _ _ _ _ h => h) (ha := (pa_cons (pv 2) pa_nil)))) (pss_one (ps_ret (pe_dget (Nat.lt_of_le_of_lt (Nat.add_le_add_left (by decide) _) hu) (pe_ix ix_u (pv 1) (pe_un un_neg pe_int) (fun _ _ => rfl)) (pv 2) (fun _ _ => rfl))))))), read_told_cost C.F h⟩), F.bindsN fun _ _ _ _ _ _ us hl => match us, hl with | [_, _, _], _ => rfl⟩, C.g_told_cost, F.kp⟩
theorem ok_tower_cost (C : Ct K w mg) : GoodO P w K mg base 5 "tower_cost" ["yard", "way"] (sp_tower_cost K) := by
  obtain ⟨fd, F⟩ := C.says.def_ 39 (d := d_tower_cost) rfl
  exact ⟨⟨fd, F.ok (k := 4) sc_tower_cost (fun vs H Q E h => sp2_len vs H Q E h) (fun cdv A outer s H vs Q E hr h => ⟨t_tower_cost K E, (have hu := hr.units; (pss_cons (ps_expr (pe_fo (ok_check_yard C) (hr.mono (by decide)) (by rfl) (passes_call (takes_of rfl rfl rfl rfl) fun _ _ _ _ h => h) (ha := (pa_cons (pv 0) pa_nil)))) (pss_cons (ps_expr (pe_fo (ok_check_way C) (hr.mono (by decide)) (by rfl) (passes_call (takes_of rfl rfl rfl rfl) fun _ _ _ _ h => h) (ha := (pa_cons (pv 1) pa_nil)))) (pss_cons (ps_set (i := 2) sc_tower_cost.nd rfl (Or.inl rfl) (Exists.elim (ok_Yard_reckoning C).fn fun _ z => pe_meth0 (pv 0) (ok_Yard_reckoning (P := P) (base := base) C).cl (ok_Yard_reckoning (P := P) (base := base) C).mt z.1 (hr.mono (by decide)) z.2 .nil (passes_call (takes_of rfl rfl rfl rfl) fun _ _ _ _ h => h))) (pss_one (ps_ret (Exists.elim (ok_Reckoning_told C).fn fun _ z => pe_meth (pv 2) (ok_Reckoning_told (P := P) (base := base) C).cl (ok_Reckoning_told (P := P) (base := base) C).mt z.1 (hr.mono (by decide)) z.2 .nil (passes_call (takes_of rfl rfl rfl rfl) fun _ _ _ _ h => h) (pa_cons (pe_ix ix_u (pe_ix ix_u (pe_fld (pv 2) rfl) (pe_un un_neg pe_int) (fun _ _ => rfl)) (pe_ix (ix_col C.t_COLUMNS) (pe_glob (by rfl) C.g_COLUMNS rfl) (pv 1) (fun _ _ => rfl)) (fun _ _ => rfl)) pa_nil)))))))), read_tower_cost C.F h⟩), F.bindsN fun _ _ _ _ _ _ us hl => match us, hl with | [_, _], _ => rfl⟩, C.g_tower_cost, F.kp⟩
theorem ok__law_asked (C : Ct K w mg) : GoodO P w K mg base 9 "_law_asked" ["_law_way", "_law_yard", "_law_one", "_law_two"] (sp__law_asked K) := by
  obtain ⟨fd, F⟩ := C.says.def_ 62 (d := d__law_asked) rfl
  exact ⟨⟨fd, F.ok (k := 8) sc__law_asked (fun vs H Q E h => sp4_len vs H Q E h) (fun cdv A outer s H vs Q E hr h => ⟨t__law_asked K E, (have hu := hr.units; (pss_cons (ps_if (pt_cmpR (op_uEq hu) (pv 0) pe_int (by rfl)) (pss_one (ps_ret (pe_fo (ok_tables C) (hr.mono (by decide)) (by rfl) (passes_call (takes_of rfl rfl rfl rfl) fun _ _ _ _ h => h) (ha := (pa_cons (pv 1) pa_nil))))) pss_nil) (pss_cons (ps_if (pt_cmpR (op_uEq hu) (pv 0) pe_int (by rfl)) (pss_one (ps_ret (pe_fo (ok_tower_cost C) (hr.mono (by decide)) (by rfl) (passes_call (takes_of rfl rfl rfl rfl) fun _ _ _ _ h => h) (ha := (pa_cons (pv 1) (pa_cons (pv 2) pa_nil)))))) pss_nil) (pss_cons (ps_if (pt_cmpR (op_uEq hu) (pv 0) pe_int (by rfl)) (pss_one (ps_ret (pe_fo (ok_is_paper C) (hr.mono (by decide)) (by rfl) (passes_call (takes_of rfl rfl rfl rfl) fun _ _ _ _ h => h) (ha := (pa_cons (pv 1) (pa_cons (pv 2) pa_nil)))))) pss_nil) (pss_cons (ps_if (pt_cmpR (op_uEq hu) (pv 0) pe_int (by rfl)) (pss_one (ps_ret (pe_fo (ok_straight_ways C) (hr.mono (by decide)) (by rfl) (passes_call (takes_of rfl rfl rfl rfl) fun _ _ _ _ h => h) (ha := (pa_cons (pv 1) pa_nil))))) pss_nil) (pss_cons (ps_if (pt_cmpR (op_uEq hu) (pv 0) pe_int (by rfl)) (pss_one (ps_ret (pe_fo (ok_told_cost C) (hr.mono (by decide)) (by rfl) (passes_call (takes_of rfl rfl rfl rfl) fun _ _ _ _ h => h) (ha := (pa_cons (pv 1) (pa_cons (pv 2) (pa_cons (pv 3) pa_nil))))))) pss_nil) (pss_cons (ps_if (pt_cmpR (op_uEq hu) (pv 0) pe_int (by rfl)) (pss_one (ps_ret (pe_fo (ok_to_towers C) (hr.mono (by decide)) (by rfl) (passes_call (takes_of rfl rfl rfl rfl) fun _ _ _ _ h => h) (ha := (pa_cons (pv 1) (pa_cons (pv 2) pa_nil)))))) pss_nil) (pss_cons (ps_if (pt_cmpR (op_uEq hu) (pv 0) pe_int (by rfl)) (pss_one (ps_ret (pe_fo (ok_from_towers C) (hr.mono (by decide)) (by rfl) (passes_call (takes_of rfl rfl rfl rfl) fun _ _ _ _ h => h) (ha := (pa_cons (pv 1) (pa_cons (pv 2) pa_nil)))))) pss_nil) (pss_cons (ps_if (pt_cmpR (op_uEq hu) (pv 0) pe_int (by rfl)) (pss_one (ps_ret (pe_fo (ok_least C) (hr.mono (by decide)) (by rfl) (passes_call (takes_of rfl rfl rfl rfl) fun _ _ _ _ h => h) (ha := (pa_cons (pv 1) (pa_cons (pv 2) (pa_cons (pv 3) pa_nil))))))) pss_nil) (pss_cons (ps_if (pt_cmpR (op_uEq hu) (pv 0) pe_int (by rfl)) (pss_one (ps_ret (pe_fo (ok_largest_moving C) (hr.mono (by decide)) (by rfl) (passes_call (takes_of rfl rfl rfl rfl) fun _ _ _ _ h => h) (ha := (pa_cons (pv 1) (pa_cons (pv 2) (pa_cons (pv 3) pa_nil))))))) pss_nil) (pss_one (ps_ret (pe_ifExp (pt_cmpR (op_uEq hu) (pv 0) pe_int (by rfl)) (pe_fo (ok_paper C) (hr.mono (by decide)) (by rfl) (passes_call (takes_of rfl rfl rfl rfl) fun _ _ _ _ h => h) (ha := (pa_cons (pv 1) (pa_cons (pv 2) (pa_cons (pv 3) pa_nil))))) (pe_fo (ok_is_cost_paper C) (hr.mono (by decide)) (by rfl) (passes_call (takes_of rfl rfl rfl rfl) fun _ _ _ _ h => h) (ha := (pa_cons (pv 1) (pa_cons (pv 2) (pa_cons (pv 3) (pa_cons pe_non pa_nil))))))))))))))))))), read__law_asked C.F h⟩), F.bindsN fun _ _ _ _ _ _ us hl => match us, hl with | [_, _, _, _], _ => rfl⟩, C.g__law_asked, F.kp⟩
theorem ok_shown_cost (C : Ct K w mg) : GoodO P w K mg base 9 "shown_cost" ["yard", "start", "goal", "paper"] (sp_shown_cost K) := by
  obtain ⟨fd, F⟩ := C.says.def_ 56 (d := d_shown_cost) rfl
  exact ⟨⟨fd, F.ok (k := 8) sc_shown_cost (fun vs H Q E h => sp4_len vs H Q E h) (fun cdv A outer s H vs Q E hr h => ⟨t_shown_cost K E, (have hu := hr.units; (pss_cons (ps_if (pt_not (pt_val (pe_fo (ok_is_cost_paper C) (hr.mono (by decide)) (by rfl) (passes_call (takes_of rfl rfl rfl rfl) fun _ _ _ _ h => h) (ha := (pa_cons (pv 0) (pa_cons (pv 1) (pa_cons (pv 2) (pa_cons (pv 3) pa_nil)))))))) (pss_one (ps_rse (okx_InvalidPaper C) (hr.mono (by decide)) rfl (takes_of rfl rfl rfl rfl) (by rfl) (pa_cons (pv 3) pa_nil))) pss_nil) (pss_cons (ps_set (i := 4) sc_shown_cost.nd rfl (Or.inl rfl) (pe_fo (ok_first_apart C) (hr.mono (by decide)) (by rfl) (passes_call (takes_of rfl rfl rfl rfl) fun _ _ _ _ h => h) (ha := (pa_cons (pv 1) (pa_cons (pv 2) pa_nil))))) (pss_cons (ps_if (pt_cmpR op_uIs (pv 4) pe_non (by rfl)) (pss_one (ps_ret pe_int)) pss_nil) (pss_cons (ps_set (i := 5) sc_shown_cost.nd rfl (Or.inl rfl) (pe_op op_uSub (pe_op op_uSub (pe_lenY (ok_Yard_len C) (hr.mono (by decide)) (by rfl) C.n_len (pa_cons (pv 0) pa_nil)) pe_int) (pv 4))) (pss_cons (ps_set (i := 6) sc_shown_cost.nd rfl (Or.inl rfl) (pe_fo (ok_bound_beyond C) (hr.mono (by decide)) (by rfl) (passes_call (takes_of rfl rfl rfl rfl) fun _ _ _ _ h => h) (ha := (pa_cons (pv 0) (pa_cons (pv 3) pa_nil))))) (pss_cons (ps_set (i := 7) sc_shown_cost.nd rfl (Or.inl rfl) (pe_ix ix_u (pe_fo (ok_bounded_prices C) (hr.mono (by decide)) (by rfl) (passes_call (takes_of rfl rfl rfl rfl) fun _ _ _ _ h => h) (ha := (pa_cons (pv 0) (pa_cons (pv 6) pa_nil)))) (pv 5) (fun _ _ => rfl))) (pss_cons (ps_set (i := 8) sc_shown_cost.nd rfl (Or.inl rfl) (pe_ix ix_u (pe_fo (ok_numbers_of C) (hr.mono (by decide)) (by rfl) (passes_call (takes_of rfl rfl rfl rfl) fun _ _ _ _ h => h) (ha := (pa_cons (pe_lst (pa_cons (pe_ix ix_u (pe_ix ix_u (pv 3) pe_int (fun _ _ => rfl)) (pv 5) (fun _ _ => rfl)) pa_nil)) (pa_cons (pe_glob (by rfl) C.g_WAYS rfl) (pa_cons (pv 6) pa_nil))))) pe_int (fun _ _ => rfl))) (pss_cons (ps_set (i := 9) sc_shown_cost.nd rfl (Or.inl rfl) (pe_ix ix_u (pe_fo (ok_numbers_of C) (hr.mono (by decide)) (by rfl) (passes_call (takes_of rfl rfl rfl rfl) fun _ _ _ _ h => h) (ha := (pa_cons (pe_lst (pa_cons (pe_ix ix_u (pe_ix ix_u (pv 3) pe_int (fun _ _ => rfl)) (pv 5) (fun _ _ => rfl)) pa_nil)) (pa_cons (pe_glob (by rfl) C.g_PLACES rfl) (pa_cons (pv 6) pa_nil))))) pe_int (fun _ _ => rfl))) (pss_cons (ps_set (i := 10) sc_shown_cost.nd rfl (Or.inl rfl) (pe_ix ix_u (pe_fo (ok_numbers_of C) (hr.mono (by decide)) (by rfl) (passes_call (takes_of rfl rfl rfl rfl) fun _ _ _ _ h => h) (ha := (pa_cons (pe_lst (pa_cons (pe_ix ix_u (pe_ix ix_u (pv 3) pe_int (fun _ _ => rfl)) (pv 5) (fun _ _ => rfl)) pa_nil)) (pa_cons (pe_glob (by rfl) C.g_PLACES rfl) (pa_cons (pv 6) pa_nil))))) pe_int (fun _ _ => rfl))) (pss_cons (ps_set (i := 11) sc_shown_cost.nd rfl (Or.inl rfl) (pe_callB (call_minT rfl hu) (by rfl) C.n_min (by decide +kernel) (pa_cons (pe_fo (ok_both_lines C) (hr.mono (by decide)) (by rfl) (passes_call (takes_of rfl rfl rfl rfl) fun _ _ _ _ h => h) (ha := (pa_cons (pe_op op_uAdd (pe_ix ix_u (pv 1) (pv 4) (fun _ _ => rfl)) (pe_ix ix_u (pv 2) (pv 4) (fun _ _ => rfl))) (pa_cons (pv 7) (pa_cons (pv 8) (pa_cons (pv 9) (pa_cons (pv 10) pa_nil))))))) pa_nil))) (pss_one (ps_ret (pe_ifExp (pt_cmpR op_uLt (pv 11) (pv 6) (by rfl)) (pv 11) pe_non)))))))))))))), read_shown_cost h⟩), F.bindsN fun _ _ _ _ _ _ us hl => match us, hl with | [_, _, _, _], _ => rfl⟩, C.g_shown_cost, F.kp⟩
theorem ok__law_caught (C : Ct K w mg) : Good P w K mg base 10 "_law_caught" ["_law_way", "_law_yard", "_law_one", "_law_two"] (sp__law_caught K) := by
  obtain ⟨fd, F⟩ := C.says.def_ 63 (d := d__law_caught) rfl
  exact ⟨⟨fd, fnG_of (k := 9) F sc__law_caught (fun vs H Q E h => sp4_len vs H Q E h) (fun cdv A outer s H vs Q E hA hr h => ⟨t__law_caught K E, (have hu := hr.units; (pss_cons (ps_tryT rfl rfl sc__law_caught.nd (takes_of rfl rfl rfl rfl) (fun W pn xe tk po => (pss_one (ps_if (pt_cmpR (op_uEq hu) (pv 0) pe_int (by rfl)) (pss_one (ps_expr (pe_foS (ok_shown_cost C) (hr.mono (by decide)) (by rfl) tk (ha := (pa_cons (pv 1) (pa_cons (pv 2) (pa_cons (pv 3) (pa_cons pe_non pa_nil)))))))) (pss_one (ps_expr (pe_foS (ok__law_asked C) (hr.mono (by decide)) (by rfl) tk (ha := (pa_cons (pv 0) (pa_cons (pv 1) (pa_cons (pv 2) (pa_cons (pv 3) pa_nil))))))))))) (ClsOk.cons (te_tup (xs := [("InvalidYard", _), ("InvalidArrangement", _), ("InvalidWay", _), ("InvalidPaper", _)]) (.cons ⟨by rfl, by decide, .inl C.g_InvalidYard⟩ (.cons ⟨by rfl, by decide, .inl C.g_InvalidArrangement⟩ (.cons ⟨by rfl, by decide, .inl C.g_InvalidWay⟩ (.cons ⟨by rfl, by decide, .inl C.g_InvalidPaper⟩ .nil)))) (show (4 : Nat) ≤ 1000 by decide)) ⟨rfl, rfl⟩ (fun a oe cls d pn hz hf => (pss_cons (ps_set (i := 5) sc__law_caught.nd rfl (Or.inl rfl) (pe_lst (pa_cons (pe_callB (call_isX hz hf) (by rfl) C.n_isinstance (by decide +kernel) (pa_cons (pv 4) (pa_cons (pe_glob (by rfl) C.g_InvalidYard rfl) pa_nil))) (pa_cons (pe_callB (call_isX hz hf) (by rfl) C.n_isinstance (by decide +kernel) (pa_cons (pv 4) (pa_cons (pe_glob (by rfl) C.g_InvalidArrangement rfl) pa_nil))) (pa_cons (pe_callB (call_isX hz hf) (by rfl) C.n_isinstance (by decide +kernel) (pa_cons (pv 4) (pa_cons (pe_glob (by rfl) C.g_InvalidWay rfl) pa_nil))) (pa_cons pe_bl pa_nil)))))) (pss_one (ps_ret (pe_lst (pa_cons (pe_ix ix_u (pe_lst (pa_cons pe_str (pa_cons pe_str (pa_cons pe_str (pa_cons pe_str pa_nil))))) (pe_bm PySem.F.plainAttrs_list PySem.F.slot_list_index PySem.F.type_list_index mt_index (pv 5) (pa_cons pe_bl pa_nil)) (fun _ _ => rfl)) (pa_cons (pe_callB (call_uReprQ hA hu C.ks) (by rfl) C.n_repr (by decide +kernel) (pa_cons (pe_xv hz hf (pv 4)) pa_nil)) pa_nil))))))) (ClsOk.cons (te_name (c := .ref (He.ga K "CratesError")) ⟨by rfl, by decide, .inl C.g_CratesError⟩) trivial (fun a oe cls d pn hz hf => (pss_one (ps_ret (pe_lst (pa_cons pe_str pa_nil))))) ClsOk.nil))) (pss_one (ps_ret (pe_lst (pa_cons pe_str pa_nil)))))), read__law_caught C.F C.xf h⟩), F.bindsN fun _ _ _ _ _ _ us hl => match us, hl with | [_, _, _, _], _ => rfl⟩, C.g__law_caught, F.kp⟩
theorem ok__law_take (C : Ct K w mg) : GoodO P w K mg base 1 "_law_take" ["_law_bag_here", "_law_limit"] (sp__law_take K) := by
  obtain ⟨fd, F⟩ := C.says.def_ 59 (d := d__law_take) rfl
  exact ⟨⟨fd, F.ok (k := 0) sc__law_take (fun vs H Q E h => sp2_len vs H Q E h) (fun cdv A outer s H vs Q E hr h => ⟨t__law_take K E, (have hu := hr.units; (pss_cons (ps_if (pt_cmpR op_uGt (pe_ix ix_u (pv 0) pe_int (fun _ _ => rfl)) pe_int (by rfl)) (pss_cons (ps_set (i := 2) sc__law_take.nd rfl (Or.inl rfl) (pe_op op_uMod (pe_callTy call_int1 (by rfl) C.n_int (by decide +kernel) (pa_cons (pe_ix ix_u (pv 0) pe_int (fun _ _ => rfl)) pa_nil)) (pv 1))) (pss_cons (ps_asg (pe_op op_uDiv (pe_ix ix_u (pv 0) pe_int (fun _ _ => rfl)) (pv 1)) (pg_sub (pv 0) pe_int set_list)) (pss_one (ps_ret (pv 2))))) pss_nil) (pss_cons (ps_asg (pe_op op_uAdd (pe_ix ix_u (pv 0) pe_int (fun _ _ => rfl)) pe_int) (pg_sub (pv 0) pe_int set_list)) (pss_cons (ps_set (i := 3) sc__law_take.nd rfl (Or.inl rfl) (pe_op op_uMod (pe_op op_uPow (pe_callTy call_int1 (by rfl) C.n_int (by decide +kernel) (pa_cons (pe_op op_uAdd (pe_op op_uAdd (pe_ix ix_u (pv 0) pe_int (fun _ _ => rfl)) (pe_op op_uMul pe_int (pe_ix ix_u (pv 0) pe_int (fun _ _ => rfl)))) pe_int) pa_nil)) pe_int) pe_int)) (pss_cons (ps_set (i := 3) sc__law_take.nd rfl (Or.inl rfl) (pe_op op_uMod (pe_op op_uPow (pe_callTy call_int1 (by rfl) C.n_int (by decide +kernel) (pa_cons (pe_op op_uAdd (pv 3) (pe_op op_uMul pe_int (pe_ix ix_u (pv 0) pe_int (fun _ _ => rfl)))) pa_nil)) pe_int) pe_int)) (pss_one (ps_ret (pe_op op_uMod (pe_callTy call_int1 (by rfl) C.n_int (by decide +kernel) (pa_cons (pe_op op_uDiv (pv 3) pe_int) pa_nil)) (pv 1))))))))), read__law_take C.F h⟩), F.bindsN fun _ _ _ _ _ _ us hl => match us, hl with | [_, _], _ => rfl⟩, C.g__law_take, F.kp⟩
theorem ok__law_rows (C : Ct K w mg) : GoodO P w K mg base 2 "_law_rows" ["_law_bag_here", "_law_most"] (sp__law_rows K) := by
  obtain ⟨fd, F⟩ := C.says.def_ 60 (d := d__law_rows) rfl
  exact ⟨⟨fd, F.ok (k := 1) sc__law_rows (fun vs H Q E h => sp2_len vs H Q E h) (fun cdv A outer s H vs Q E hr h => ⟨t__law_rows K E, (have hu := hr.units; (pss_cons (ps_par (by rfl) sc__law_rows.nd rfl rfl (by decide) rfl rfl (pa_cons (pe_fo (ok__law_take C) (hr.mono (by decide)) (by rfl) (passes_call (takes_of rfl rfl rfl rfl) fun _ _ _ _ h => h) (ha := (pa_cons (pv 0) (pa_cons pe_int pa_nil)))) (pa_cons (pe_ix ix_u (pe_lst (pa_cons pe_int (pa_cons pe_int (pa_cons pe_int (pa_cons pe_int pa_nil))))) (pe_fo (ok__law_take C) (hr.mono (by decide)) (by rfl) (passes_call (takes_of rfl rfl rfl rfl) fun _ _ _ _ h => h) (ha := (pa_cons (pv 0) (pa_cons pe_int pa_nil)))) (fun _ _ => rfl)) pa_nil)) (by rfl)) (pss_cons (ps_set (i := 4) sc__law_rows.nd rfl (Or.inl rfl) (pe_lst pa_nil)) (pss_cons (ps_for (passes_of rfl) rfl (pi_range1 (by rfl) C.n_range (pa_cons (pe_op op_uAdd pe_int (pe_fo (ok__law_take C) (hr.mono (by decide)) (by rfl) (passes_call (takes_of rfl rfl rfl rfl) fun _ _ _ _ h => h) (ha := (pa_cons (pv 0) (pa_cons (pv 1) pa_nil))))) pa_nil)) (pg_name (i := 5) sc__law_rows.nd rfl (Or.inl rfl)) (pss_cons (ps_set (i := 6) sc__law_rows.nd rfl (Or.inl rfl) (pe_lst pa_nil)) (pss_cons (ps_for (passes_of rfl) rfl (pi_range1 (by rfl) C.n_range (pa_cons pe_int pa_nil)) (pg_name (i := 7) sc__law_rows.nd rfl (Or.inl rfl)) (pss_cons (ps_set (i := 8) sc__law_rows.nd rfl (Or.inl rfl) (pe_ix ix_u (pe_lst (pa_cons pe_int (pa_cons (pe_op op_uAdd pe_int (pe_fo (ok__law_take C) (hr.mono (by decide)) (by rfl) (passes_call (takes_of rfl rfl rfl rfl) fun _ _ _ _ h => h) (ha := (pa_cons (pv 0) (pa_cons pe_int pa_nil))))) (pa_cons (pe_op op_uAdd pe_int (pe_fo (ok__law_take C) (hr.mono (by decide)) (by rfl) (passes_call (takes_of rfl rfl rfl rfl) fun _ _ _ _ h => h) (ha := (pa_cons (pv 0) (pa_cons pe_int pa_nil))))) (pa_cons (pe_op op_uAdd pe_int (pe_fo (ok__law_take C) (hr.mono (by decide)) (by rfl) (passes_call (takes_of rfl rfl rfl rfl) fun _ _ _ _ h => h) (ha := (pa_cons (pv 0) (pa_cons (pe_op op_uPow pe_int pe_int) pa_nil))))) (pa_cons (pe_op op_uSub (pe_op op_uPow pe_int pe_int) (pe_fo (ok__law_take C) (hr.mono (by decide)) (by rfl) (passes_call (takes_of rfl rfl rfl rfl) fun _ _ _ _ h => h) (ha := (pa_cons (pv 0) (pa_cons pe_int pa_nil))))) pa_nil)))))) (pv 2) (fun _ _ => rfl))) (pss_one (ps_expr (pe_bm PySem.F.plainAttrs_list PySem.F.slot_list_append PySem.F.type_list_append mt_append (pv 6) (pa_cons (pe_ifExp (PW.pt (pw_and (pt_cmpR op_uGt (pv 3) pe_int (by rfl)) (pw_and1 (pt_cmpR (op_uEq hu) (pe_fo (ok__law_take C) (hr.mono (by decide)) (by rfl) (passes_call (takes_of rfl rfl rfl rfl) fun _ _ _ _ h => h) (ha := (pa_cons (pv 0) (pa_cons (pv 3) pa_nil)))) pe_int (by rfl))))) pe_non (pv 8)) pa_nil)))))) (pss_one (ps_expr (pe_bm PySem.F.plainAttrs_list PySem.F.slot_list_append PySem.F.type_list_append mt_append (pv 4) (pa_cons (pv 6) pa_nil))))))) (pss_one (ps_ret (pv 4))))))), read__law_rows C.F h⟩), F.bindsN fun _ _ _ _ _ _ us hl => match us, hl with | [_, _], _ => rfl⟩, C.g__law_rows, F.kp⟩
theorem ok__law_very_right (C : Ct K w mg) : GoodO P w K mg base 10 "_law_very_right" ["_law_yard", "_law_word_here"] (sp__law_very_right K) := by
  obtain ⟨fd, F⟩ := C.says.def_ 64 (d := d__law_very_right) rfl
  exact ⟨⟨fd, F.ok (k := 9) sc__law_very_right (fun vs H Q E h => sp2_len vs H Q E h) (fun cdv A outer s H vs Q E hr h => ⟨t__law_very_right K E, (have hu := hr.units; (pss_cons (ps_for (passes_of rfl) rfl (pi_range1 (by rfl) C.n_range (pa_cons pe_int pa_nil)) (pg_name (i := 2) sc__law_very_right.nd rfl (Or.inl rfl)) (pss_cons (ps_set (i := 3) sc__law_very_right.nd rfl (Or.inl rfl) (pe_lst (pa_cons (pv 2) pa_nil))) (pss_cons (ps_tryT rfl rfl sc__law_very_right.nd (takes_of rfl rfl rfl rfl) (fun W pn xe tk po => (pss_cons (ps_if (pt_cmpR (op_uEq hu) (pv 2) pe_int (by rfl)) (pss_one (ps_expr (pe_foS (ok_told_cost C) (hr.mono (by decide)) (by rfl) tk (ha := (pa_cons (pv 0) (pa_cons (pv 3) (pa_cons pe_str pa_nil))))))) (pss_one (ps_expr (pe_foS (ok_shown_cost C) (hr.mono (by decide)) (by rfl) tk (ha := (pa_cons (pv 0) (pa_cons (pv 1) (pa_cons (pv 1) (pa_cons (pv 3) pa_nil))))))))) (pss_one (ps_ret pe_bl)))) (ClsOk.cons (te_name (c := .ref (He.ga K "InvalidPaper")) ⟨by rfl, by decide, .inl C.g_InvalidPaper⟩) ⟨rfl, rfl⟩ (fun a oe cls d pn hz hf => (pss_one (ps_expr (pe_bm PySem.F.plainAttrs_list PySem.F.slot_list_append PySem.F.type_list_append mt_append (pe_xv hz hf (pv 4)) (pa_cons pe_str pa_nil))))) ClsOk.nil)) (pss_one (ps_if (pt_cmpR (op_uNe hu) (pv 3) (pe_lst (pa_cons (pv 2) (pa_cons pe_str pa_nil))) (by rfl)) (pss_one (ps_ret pe_bl)) pss_nil))))) (pss_one (ps_ret pe_bl)))), read__law_very_right C.F C.xf h⟩), F.bindsN fun _ _ _ _ _ _ us hl => match us, hl with | [_, _], _ => rfl⟩, C.g__law_very_right, F.kp⟩
theorem ok__law_word (C : Ct K w mg) : GoodO P w K mg base 2 "_law_word" ["_law_bag_here", "_law_count"] (sp__law_word K) := by
  obtain ⟨fd, F⟩ := C.says.def_ 61 (d := d__law_word) rfl
  exact ⟨⟨fd, F.ok (k := 1) sc__law_word (fun vs H Q E h => sp2_len vs H Q E h) (fun cdv A outer s H vs Q E hr h => ⟨t__law_word K E, (have hu := hr.units; (pss_one (ps_ret (pe_joinU pe_str (pe_lc (own := [("_law_crate", 2)]) (g := (gName 2)) (tt := tYes) rfl sc__law_word.nd (pi_range1 (by rfl) C.n_range (pa_cons (pv 1) pa_nil)) (blkOk_by (N := n__law_word) (sc := defScope s__law_word) (by decide +kernel)) (fun _ _ _ _ _ => (pg_name (i := 2) sc__law_word.nd rfl (Or.inl rfl))) (fun _ _ _ _ _ => pts_nil) (fun _ _ _ _ _ => (pe_ix ix_u pe_str (pe_fo (ok__law_take C) (hr.mono (by decide)) (by rfl) passL (ha := (pa_cons (pv 0) (pa_cons pe_int pa_nil)))) (fun _ _ => rfl)))))))), read__law_word C.F h⟩), F.bindsN fun _ _ _ _ _ _ us hl => match us, hl with | [_, _], _ => rfl⟩, C.g__law_word, F.kp⟩
theorem ok_is_integer (C : Ct K w mg) : GoodO P w K mg base 1 "is_integer" ["value"] (sp_is_integer K) := by
  obtain ⟨fd, F⟩ := C.says.def_ 28 (d := d_is_integer) rfl
  exact ⟨⟨fd, F.ok (k := 0) sc_is_integer (fun vs H Q E h => sp1_len vs H Q E h) (fun cdv A outer s H vs Q E hr h => ⟨t_is_integer K E, (have hu := hr.units; (pss_one (ps_ret (pe_and (pe_callB call_uIsi (by rfl) C.n_isinstance (by decide +kernel) (pa_cons (pv 0) (pa_cons (pe_bltn (v := .ty "int") (by rfl) C.n_int (by decide +kernel) rfl) pa_nil))) (pe_one (pe_not (pe_callB call_uIsi (by rfl) C.n_isinstance (by decide +kernel) (pa_cons (pv 0) (pa_cons (pe_bltn (v := .ty "bool") (by rfl) C.n_bool (by decide +kernel) rfl) pa_nil))))))))), read_is_integer C.F h⟩), F.bindsN fun _ _ _ _ _ _ us hl => match us, hl with | [_], _ => rfl⟩, C.g_is_integer, F.kp⟩
theorem ok_is_price (C : Ct K w mg) : GoodO P w K mg base 2 "is_price" ["value"] (sp_is_price K) := by
  obtain ⟨fd, F⟩ := C.says.def_ 27 (d := d_is_price) rfl
  exact ⟨⟨fd, F.ok (k := 1) sc_is_price (fun vs H Q E h => sp1_len vs H Q E h) (fun cdv A outer s H vs Q E hr h => ⟨t_is_price K E, (have hu := hr.units; (pss_one (ps_ret (pe_and (pe_fo (ok_is_integer C) (hr.mono (by decide)) (by rfl) (passes_call (takes_of rfl rfl rfl rfl) fun _ _ _ _ h => h) (ha := (pa_cons (pv 0) pa_nil))) (pe_one (pe_cmpR op_uGt (pv 0) pe_int (by rfl))))))), read_is_price C.F h⟩), F.bindsN fun _ _ _ _ _ _ us hl => match us, hl with | [_], _ => rfl⟩, C.g_is_price, F.kp⟩
theorem ok__is_price_row (C : Ct K w mg) : GoodO P w K mg base 3 "_is_price_row" ["value"] (sp__is_price_row K) := by
  obtain ⟨fd, F⟩ := C.says.def_ 37 (d := d__is_price_row) rfl
  exact ⟨⟨fd, F.ok (k := 2) sc__is_price_row (fun vs H Q E h => sp1_len vs H Q E h) (fun cdv A outer s H vs Q E hr h => ⟨t__is_price_row K E, (have hu := hr.units; (pss_one (ps_ret (pe_and (pe_callB call_uIsi (by rfl) C.n_isinstance (by decide +kernel) (pa_cons (pv 0) (pa_cons (pe_tup (pa_cons (pe_bltn (v := .ty "list") (by rfl) C.n_list (by decide +kernel) rfl) (pa_cons (pe_bltn (v := .ty "tuple") (by rfl) C.n_tuple (by decide +kernel) rfl) pa_nil))) pa_nil))) (pe_and (pe_cmpR (op_uEq hu) (pe_callB call_uLen (by rfl) C.n_len boot_len (pa_cons (pv 0) pa_nil)) (pe_callB call_uLen (by rfl) C.n_len boot_len (pa_cons (pe_glob (by rfl) C.g_WAYS rfl) pa_nil)) (by rfl)) (pe_one (pe_callB (cr_all rfl) (by rfl) C.n_all (by decide +kernel) (pa_cons (pe_lc (own := [("price", 1)]) (g := (gName 1)) (tt := tYes) rfl sc__is_price_row.nd (pi_seq (pv 0)) (blkOk_by (N := n__is_price_row) (sc := defScope s__is_price_row) (by decide +kernel)) (fun _ _ _ _ _ => (pg_name (i := 1) sc__is_price_row.nd rfl (Or.inl rfl))) (fun _ _ _ _ _ => pts_nil) (fun _ _ _ _ _ => (pe_or (pe_cmpR op_uIs (pv 1) pe_non (by rfl)) (pe_one (pe_fo (ok_is_price C) (hr.mono (by decide)) (by rfl) passL (ha := (pa_cons (pv 1) pa_nil))))))) pa_nil)))))))), read__is_price_row C.F h⟩), F.bindsN fun _ _ _ _ _ _ us hl => match us, hl with | [_], _ => rfl⟩, C.g__is_price_row, F.kp⟩
theorem ok__are_rows (C : Ct K w mg) : GoodO P w K mg base 4 "_are_rows" ["value"] (sp__are_rows K) := by
  obtain ⟨fd, F⟩ := C.says.def_ 36 (d := d__are_rows) rfl
  exact ⟨⟨fd, F.ok (k := 3) sc__are_rows (fun vs H Q E h => sp1_len vs H Q E h) (fun cdv A outer s H vs Q E hr h => ⟨t__are_rows K E, (have hu := hr.units; (pss_one (ps_ret (pe_and (pe_callB call_uIsi (by rfl) C.n_isinstance (by decide +kernel) (pa_cons (pv 0) (pa_cons (pe_tup (pa_cons (pe_bltn (v := .ty "list") (by rfl) C.n_list (by decide +kernel) rfl) (pa_cons (pe_bltn (v := .ty "tuple") (by rfl) C.n_tuple (by decide +kernel) rfl) pa_nil))) pa_nil))) (pe_and (pe_chain op_uLe op_uLe pe_int (pe_callB call_uLen (by rfl) C.n_len boot_len (pa_cons (pv 0) pa_nil)) (pe_int_of (by rfl) (C.int_MOST_CRATES))) (pe_one (pe_callB (cr_all rfl) (by rfl) C.n_all (by decide +kernel) (pa_cons (pe_lc (own := [("row", 1)]) (g := (gName 1)) (tt := tYes) rfl sc__are_rows.nd (pi_seq (pv 0)) (blkOk_by (N := n__are_rows) (sc := defScope s__are_rows) (by decide +kernel)) (fun _ _ _ _ _ => (pg_name (i := 1) sc__are_rows.nd rfl (Or.inl rfl))) (fun _ _ _ _ _ => pts_nil) (fun _ _ _ _ _ => (pe_fo (ok__is_price_row C) (hr.mono (by decide)) (by rfl) passL (ha := (pa_cons (pv 1) pa_nil))))) pa_nil)))))))), read__are_rows C.F h⟩), F.bindsN fun _ _ _ _ _ _ us hl => match us, hl with | [_], _ => rfl⟩, C.g__are_rows, F.kp⟩
theorem ok_Yard_init (C : Ct K w mg) : GoodM P w K mg base 5 "Yard" "__init__" ["self", "rows"] (sp_Yard_init K) := by
  obtain ⟨fd, F⟩ := C.says.def_ 31 (d := d_Yard_init) rfl
  exact ⟨⟨fd, F.ok (k := 4) sc_Yard_init (fun vs H Q E h => sp2_len vs H Q E h) (fun cdv A outer s H vs Q E hr h => ⟨t_Yard_init K E, (have hu := hr.units; (pss_cons (ps_if (pt_not (pt_val (pe_fo (ok__are_rows C) (hr.mono (by decide)) (by rfl) (passes_call (takes_of rfl rfl rfl rfl) fun _ _ _ _ h => h) (ha := (pa_cons (pv 1) pa_nil))))) (pss_one (ps_rse (okx_InvalidYard C) (hr.mono (by decide)) rfl (takes_of rfl rfl rfl rfl) (by rfl) (pa_cons (pv 1) pa_nil))) pss_nil) (pss_cons (ps_fld (pv 0) (pe_callTy (call_uTup rfl) (by rfl) C.n_tuple (by decide +kernel) (pa_cons (pe_lc (own := [("row", 2)]) (g := (gName 2)) (tt := tYes) rfl sc_Yard_init.nd (pi_seq (pv 1)) (blkOk_by (N := n_Yard_init) (sc := defScope s_Yard_init) (by decide +kernel)) (fun _ _ _ _ _ => (pg_name (i := 2) sc_Yard_init.nd rfl (Or.inl rfl))) (fun _ _ _ _ _ => pts_nil) (fun _ _ _ _ _ => (pe_callTy (call_uTup rfl) (by rfl) C.n_tuple (by decide +kernel) (pa_cons (pv 2) pa_nil)))) pa_nil)) rfl) (pss_one (ps_fld (pv 0) pe_non rfl))))), read_Yard_init C.F h⟩), F.bindsN fun _ _ _ _ _ _ us hl => match us, hl with | [_, _], _ => rfl⟩, C.m_Yard_init, C.F.cl⟩
theorem ok__law_right (C : Ct K w mg) : Good P w K mg base 11 "_law_right" ["_law_bag_here"] (sp__law_right K) := by
  obtain ⟨fd, F⟩ := C.says.def_ 65 (d := d__law_right) rfl
  exact ⟨⟨fd, fnG_of (k := 10) F sc__law_right (fun vs H Q E h => sp1_len vs H Q E h) (fun cdv A outer s H vs Q E hA hr h => ⟨t__law_right K E, (have hu := hr.units; (pss_cons (ps_set (i := 1) sc__law_right.nd rfl (Or.inl rfl) (pe_fo (ok__law_rows C) (hr.mono (by decide)) (by rfl) (passes_call (takes_of rfl rfl rfl rfl) fun _ _ _ _ h => h) (ha := (pa_cons (pv 0) (pa_cons pe_int pa_nil))))) (pss_cons (ps_asg (pe_tup (pa_cons (pe_mk (ok_Yard_init C) C.mk_Yard C.g_Yard (hr.mono (by decide)) (by rfl) (passes_call (takes_of rfl rfl rfl rfl) fun _ _ _ _ h => h) (ha := (pa_cons (pv 1) pa_nil))) (pa_cons (pe_fo (ok__law_word C) (hr.mono (by decide)) (by rfl) (passes_call (takes_of rfl rfl rfl rfl) fun _ _ _ _ h => h) (ha := (pa_cons (pv 0) (pa_cons (pe_callB call_uLen (by rfl) C.n_len boot_len (pa_cons (pv 1) pa_nil)) pa_nil)))) pa_nil))) (pg_tup (by rfl) (pgs_cons (pg_name (i := 2) sc__law_right.nd rfl (Or.inr rfl)) (pgs_cons (pg_name (i := 3) sc__law_right.nd rfl (Or.inr rfl)) pgs_nil)))) (pss_cons (ps_set (i := 4) sc__law_right.nd rfl (Or.inr rfl) (pe_ix ix_u (pe_lst (pa_cons pe_non (pa_cons pe_int (pa_cons pe_str (pa_cons (pe_lst pa_nil) (pa_cons pe_dnewK (pa_cons pe_bl (pa_cons (pv 1) pa_nil)))))))) (pe_fo (ok__law_take C) (hr.mono (by decide)) (by rfl) (passes_call (takes_of rfl rfl rfl rfl) fun _ _ _ _ h => h) (ha := (pa_cons (pv 0) (pa_cons pe_int pa_nil)))) (fun _ _ => rfl))) (pss_cons (ps_if (pt_cmpR (op_uNe hu) (pe_lc (own := [("_law_way", 9)]) (g := (gName 9)) (tt := tYes) rfl sc__law_right.nd (pi_range1 (by rfl) C.n_range (pa_cons pe_int pa_nil)) (blkOk_by (N := n__law_right) (sc := defScope s__law_right) (by decide +kernel)) (fun _ _ _ _ _ => (pg_name (i := 9) sc__law_right.nd rfl (Or.inl rfl))) (fun _ _ _ _ _ => pts_nil) (fun _ _ _ _ _ => (pe_fn (ok__law_caught C) hA (hr.mono (by decide)) (by rfl) passL (ha := (pa_cons (pv 9) (pa_cons (pv 4) (pa_cons pe_non (pa_cons pe_non pa_nil)))))))) (pe_op op_uMul (pe_lst (pa_cons (pe_lst (pa_cons pe_str (pa_cons (pe_callB (call_uReprQ hA hu C.ks) (by rfl) C.n_repr (by decide +kernel) (pa_cons (pv 4) pa_nil)) pa_nil))) pa_nil)) pe_int) (by rfl)) (pss_one (ps_ret pe_bl)) pss_nil) (pss_cons (ps_set (i := 5) sc__law_right.nd rfl (Or.inl rfl) (pe_lst (pa_cons pe_non (pa_cons pe_str (pa_cons (pe_op op_uAdd (pv 3) pe_str) (pa_cons (pe_slice sl_u (pv 3) (po_some pe_int) po_none) (pa_cons (pe_op op_uAdd (pe_slice sl_u (pv 3) po_none (po_some (pe_un un_neg pe_int))) pe_str) (pa_cons (pe_op op_uAdd (pe_slice sl_u (pv 3) po_none (po_some (pe_un un_neg pe_int))) pe_str) (pa_cons (pe_callTy (call_uLst rfl) (by rfl) C.n_list (by decide +kernel) (pa_cons (pv 3) pa_nil)) (pa_cons pe_int (pa_cons (pe_callTy (call_uTup rfl) (by rfl) C.n_tuple (by decide +kernel) (pa_cons (pv 3) pa_nil)) (pa_cons (pe_op op_uAdd pe_str (pv 3)) pa_nil)))))))))))) (pss_cons (ps_asg (pe_tup (pa_cons (pe_ix ix_u (pv 5) (pe_fo (ok__law_take C) (hr.mono (by decide)) (by rfl) (passes_call (takes_of rfl rfl rfl rfl) fun _ _ _ _ h => h) (ha := (pa_cons (pv 0) (pa_cons pe_int pa_nil)))) (fun _ _ => rfl)) (pa_cons (pe_ix ix_u (pv 5) (pe_fo (ok__law_take C) (hr.mono (by decide)) (by rfl) (passes_call (takes_of rfl rfl rfl rfl) fun _ _ _ _ h => h) (ha := (pa_cons (pv 0) (pa_cons pe_int pa_nil)))) (fun _ _ => rfl)) pa_nil))) (pg_tup (by rfl) (pgs_cons (pg_name (i := 6) sc__law_right.nd rfl (Or.inr rfl)) (pgs_cons (pg_name (i := 7) sc__law_right.nd rfl (Or.inr rfl)) pgs_nil)))) (pss_cons (ps_if (pt_cmpR (op_uNe hu) (pe_lc (own := [("_law_way", 9)]) (g := (gName 9)) (tt := tYes) rfl sc__law_right.nd (pi_seq (pe_tup (pa_cons pe_int (pa_cons pe_int pa_nil)))) (blkOk_by (N := n__law_right) (sc := defScope s__law_right) (by decide +kernel)) (fun _ _ _ _ _ => (pg_name (i := 9) sc__law_right.nd rfl (Or.inl rfl))) (fun _ _ _ _ _ => pts_nil) (fun _ _ _ _ _ => (pe_fn (ok__law_caught C) hA (hr.mono (by decide)) (by rfl) passL (ha := (pa_cons (pv 9) (pa_cons (pv 2) (pa_cons (pv 6) (pa_cons pe_non pa_nil)))))))) (pe_op op_uMul (pe_lst (pa_cons (pe_lst (pa_cons pe_str (pa_cons (pe_callB (call_uReprQ hA hu C.ks) (by rfl) C.n_repr (by decide +kernel) (pa_cons (pv 6) pa_nil)) pa_nil))) pa_nil)) pe_int) (by rfl)) (pss_one (ps_ret pe_bl)) pss_nil) (pss_cons (ps_if (pt_cmpR (op_uNe hu) (pe_lc (own := [("_law_way", 9)]) (g := (gName 9)) (tt := tYes) rfl sc__law_right.nd (pi_seq (pe_tup (pa_cons pe_int (pa_cons pe_int (pa_cons pe_int (pa_cons pe_int (pa_cons pe_int pa_nil))))))) (blkOk_by (N := n__law_right) (sc := defScope s__law_right) (by decide +kernel)) (fun _ _ _ _ _ => (pg_name (i := 9) sc__law_right.nd rfl (Or.inl rfl))) (fun _ _ _ _ _ => pts_nil) (fun _ _ _ _ _ => (pe_fn (ok__law_caught C) hA (hr.mono (by decide)) (by rfl) passL (ha := (pa_cons (pv 9) (pa_cons (pv 2) (pa_cons (pv 6) (pa_cons (pv 7) pa_nil)))))))) (pe_op op_uMul (pe_lst (pa_cons (pe_lst (pa_cons pe_str (pa_cons (pe_callB (call_uReprQ hA hu C.ks) (by rfl) C.n_repr (by decide +kernel) (pa_cons (pv 6) pa_nil)) pa_nil))) pa_nil)) pe_int) (by rfl)) (pss_one (ps_ret pe_bl)) pss_nil) (pss_cons (ps_if (pt_cmpR (op_uNe hu) (pe_lc (own := [("_law_way", 9)]) (g := (gName 9)) (tt := tYes) rfl sc__law_right.nd (pi_seq (pe_tup (pa_cons pe_int (pa_cons pe_int (pa_cons pe_int (pa_cons pe_int (pa_cons pe_int pa_nil))))))) (blkOk_by (N := n__law_right) (sc := defScope s__law_right) (by decide +kernel)) (fun _ _ _ _ _ => (pg_name (i := 9) sc__law_right.nd rfl (Or.inl rfl))) (fun _ _ _ _ _ => pts_nil) (fun _ _ _ _ _ => (pe_fn (ok__law_caught C) hA (hr.mono (by decide)) (by rfl) passL (ha := (pa_cons (pv 9) (pa_cons (pv 2) (pa_cons (pv 3) (pa_cons (pv 7) pa_nil)))))))) (pe_op op_uMul (pe_lst (pa_cons (pe_lst (pa_cons pe_str (pa_cons (pe_callB (call_uReprQ hA hu C.ks) (by rfl) C.n_repr (by decide +kernel) (pa_cons (pv 7) pa_nil)) pa_nil))) pa_nil)) pe_int) (by rfl)) (pss_one (ps_ret pe_bl)) pss_nil) (pss_cons (ps_set (i := 8) sc__law_right.nd rfl (Or.inl rfl) (pe_ix ix_u (pe_lst (pa_cons pe_non (pa_cons pe_str (pa_cons pe_str (pa_cons pe_str (pa_cons pe_int (pa_cons pe_str (pa_cons (pe_lst (pa_cons pe_str pa_nil)) (pa_cons pe_str pa_nil))))))))) (pe_fo (ok__law_take C) (hr.mono (by decide)) (by rfl) (passes_call (takes_of rfl rfl rfl rfl) fun _ _ _ _ h => h) (ha := (pa_cons (pv 0) (pa_cons pe_int pa_nil)))) (fun _ _ => rfl))) (pss_cons (ps_if (PW.pt (pw_or (pt_cmpR (op_uNe hu) (pe_fn (ok__law_caught C) hA (hr.mono (by decide)) (by rfl) (passes_call (takes_of rfl rfl rfl rfl) fun _ _ _ _ h => h) (ha := (pa_cons pe_int (pa_cons (pv 2) (pa_cons (pv 8) (pa_cons pe_non pa_nil)))))) (pe_lst (pa_cons pe_str (pa_cons (pe_callB (call_uReprQ hA hu C.ks) (by rfl) C.n_repr (by decide +kernel) (pa_cons (pv 8) pa_nil)) pa_nil))) (by rfl)) (pw_or1 (pt_cmpR (op_uNe hu) (pe_fn (ok__law_caught C) hA (hr.mono (by decide)) (by rfl) (passes_call (takes_of rfl rfl rfl rfl) fun _ _ _ _ h => h) (ha := (pa_cons pe_int (pa_cons (pv 2) (pa_cons pe_non (pa_cons (pv 8) pa_nil)))))) (pe_lst (pa_cons pe_str (pa_cons pe_str pa_nil))) (by rfl))))) (pss_one (ps_ret pe_bl)) pss_nil) (pss_cons (ps_if (pt_cmpR (op_uNe hu) (pe_fn (ok__law_caught C) hA (hr.mono (by decide)) (by rfl) (passes_call (takes_of rfl rfl rfl rfl) fun _ _ _ _ h => h) (ha := (pa_cons pe_int (pa_cons (pv 2) (pa_cons (pe_fo (ok_tables C) (hr.mono (by decide)) (by rfl) (passes_call (takes_of rfl rfl rfl rfl) fun _ _ _ _ h => h) (ha := (pa_cons (pv 2) pa_nil))) (pa_cons (pv 8) pa_nil)))))) (pe_lst (pa_cons pe_str (pa_cons (pe_callB (call_uReprQ hA hu C.ks) (by rfl) C.n_repr (by decide +kernel) (pa_cons (pv 8) pa_nil)) pa_nil))) (by rfl)) (pss_one (ps_ret pe_bl)) pss_nil) (pss_cons (ps_if (pt_cmpR (op_uNe hu) (pe_fn (ok__law_caught C) hA (hr.mono (by decide)) (by rfl) (passes_call (takes_of rfl rfl rfl rfl) fun _ _ _ _ h => h) (ha := (pa_cons pe_int (pa_cons (pv 2) (pa_cons (pv 3) (pa_cons (pv 3) pa_nil)))))) (pe_lst (pa_cons pe_str (pa_cons pe_str pa_nil))) (by rfl)) (pss_one (ps_ret pe_bl)) pss_nil) (pss_cons (ps_if (pt_cmpR (op_uNe hu) (pe_lc (own := [("_law_way", 9)]) (g := (gName 9)) (tt := tYes) rfl sc__law_right.nd (pi_seq (pe_tup (pa_cons pe_int (pa_cons pe_int (pa_cons pe_int pa_nil))))) (blkOk_by (N := n__law_right) (sc := defScope s__law_right) (by decide +kernel)) (fun _ _ _ _ _ => (pg_name (i := 9) sc__law_right.nd rfl (Or.inl rfl))) (fun _ _ _ _ _ => pts_nil) (fun _ _ _ _ _ => (pe_fn (ok__law_caught C) hA (hr.mono (by decide)) (by rfl) passL (ha := (pa_cons (pv 9) (pa_cons (pv 2) (pa_cons pe_non (pa_cons pe_non pa_nil)))))))) (pe_op op_uMul (pe_lst (pa_cons (pe_lst (pa_cons pe_str pa_nil)) pa_nil)) pe_int) (by rfl)) (pss_one (ps_ret pe_bl)) pss_nil) (pss_one (ps_ret (pe_and (pe_fo (ok__law_very_right C) (hr.mono (by decide)) (by rfl) (passes_call (takes_of rfl rfl rfl rfl) fun _ _ _ _ h => h) (ha := (pa_cons (pv 2) (pa_cons (pv 3) pa_nil)))) (pe_one (pe_cmpR (op_uEq hu) (Exists.elim (ok_Yard_rows C).fn fun _ z => pe_meth0 (pv 2) (ok_Yard_rows (P := P) (base := base) C).cl (ok_Yard_rows (P := P) (base := base) C).mt z.1 (hr.mono (by decide)) z.2 .nil (passes_call (takes_of rfl rfl rfl rfl) fun _ _ _ _ h => h)) (pv 1) (by rfl))))))))))))))))))))), read__law_right C.F h⟩), F.bindsN fun _ _ _ _ _ _ us hl => match us, hl with | [_], _ => rfl⟩, C.g__law_right, F.kp⟩
theorem okF_law (C : Ct K w mg) {fd : FuncData} (F : FunD K d_law.name d_law.qual d_law.params d_law.body d_law.scope (d_law.dvs K) (d_law.kws K) (d_law.at_ K) fd) : FnG P w K mg base 12 (He.ga K "law") fd ["_law_script"] (sp_law0 K) :=
  fnG_of (k := 11) F sc_law (fun vs H Q E h => sp1_len vs H Q E h) (fun cdv A outer s H vs Q E hA hr h => ⟨t_law K E, (have hu := hr.units; (pss_cons (ps_for (passes_of rfl) rfl (pi_range1 (by rfl) C.n_range (pa_cons (pe_callB (call_max2 rfl) (by rfl) C.n_max (by decide +kernel) (pa_cons pe_int (pa_cons (pe_callB (call_min2 rfl) (by rfl) C.n_min (by decide +kernel) (pa_cons pe_int (pa_cons (pe_callB call_uLen (by rfl) C.n_len boot_len (pa_cons (pv 0) pa_nil)) pa_nil))) pa_nil))) pa_nil)) (pg_name (i := 1) sc_law.nd rfl (Or.inl rfl)) (pss_one (ps_if (pt_not (pt_val (pe_fn (ok__law_right C) hA (hr.mono (by decide)) (by rfl) (passes_call (takes_of rfl rfl rfl rfl) fun _ _ _ _ h => h) (ha := (pa_cons (pe_fo (ok__law_bag C) (hr.mono (by decide)) (by rfl) (passes_call (takes_of rfl rfl rfl rfl) fun _ _ _ _ h => h) (ha := (pa_cons (pe_fo (ok__law_cell C) (hr.mono (by decide)) (by rfl) (passes_call (takes_of rfl rfl rfl rfl) fun _ _ _ _ h => h) (ha := (pa_cons (pv 0) (pa_cons (pv 1) pa_nil)))) pa_nil))) pa_nil))))) (pss_one (ps_ret pe_bl)) pss_nil))) (pss_one (ps_ret pe_bl)))), read_law C.F h⟩)
end
end U
open PySem PySem.W PySem.Calls PyProof.Rows
theorem PySem.Challenge.cw_cratetowers_k26_costs_refused_holds : PySem.Challenge.rw_cratetowers_k26_costs_refused.Holds := by
  w_on; o_law
  refine HandSHeadRun.head_any (r := OpenLaw.row PySem.Challenge.rw_cratetowers_k26_costs_refused) (q := view (OpenLaw.row PySem.Challenge.rw_cratetowers_k26_costs_refused).prog [87]) (H := U.hk) (ob := U.ob) (M := 20000) (loose := U.loose) (d := HandSHeadRun.topDef (OpenLaw.row PySem.Challenge.rw_cratetowers_k26_costs_refused).prog 87) (kwd := []) U.ob_eq
    (by kernel_rfl) (fun s => by kernel_rfl) U.run (by kernel_rfl) (by kernel_rfl) (by kernel_rfl) (by rfl) (by first | assumption | decide +kernel) (by decide +kernel) ⟨rfl, rfl, rfl, rfl, rfl, by decide +kernel⟩ ?hw ?hc
  case hw => w_witness2
  case hc =>
    refine U.walk_G (l := PySem.Challenge.rw_cratetowers_k26_costs_refused) (n := 63) (k := 12) (x := "_law_script") ⟨rfl, by decide, by decide⟩ rfl (by decide) (by kernel_rfl) ?F
    intro w mg fa h hmg0 Y G
    obtain ⟨K, KX, c, e⟩ := Y
    have hmg : mg ("law" : PySem.Str) = some (.ref fa) := by
      have e : (HandSHeadRun.topDef (OpenLaw.row PySem.Challenge.rw_cratetowers_k26_costs_refused).prog 87).name = ("law" : PySem.Str) := by kernel_rfl
      rw [← e]
      exact hmg0
    have C := U.ct_of KX G c e
    have e2 := hmg.symm.trans C.g_law
    cases e2
    obtain ⟨fd, F⟩ := c.1.def_ 66 (d := U.d_law) rfl
    have b := L2.FunD.bindsA (ps := ["_law_script"]) F fun _ _ _ _ _ _ us hl => match us, hl with | [_], _ => rfl
    exact ⟨K, U.sp_law0 K, fd, fun s v => b s [v] rfl, KX, fun base _ _ => U.okF_law C F, fun H a ns hl _ hS => ⟨a, ns, rfl, hS, fun _ => rfl⟩⟩

