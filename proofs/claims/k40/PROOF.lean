import PyProof.Rows.All
import Wide.All
import OpenK.AllK
import Wide.FinOn
import KE.KStateDown
import Lean
import HandS.ForMost
import HandS.WordsExc
import HandS.Exc
import HandS.ExcInit
import HandS.IsInst
import HandS.Defaults
import HandS.Wide
import HandS.Style
import HandS.Strs
import HandS.More
import HandS.RaiseMore
import HandS.Flow
import HandS.HeadHook2
import HandS.HeadEnd
import HandS.EndBits
import HandS.StrMore
import PyProof.ReprRoads
import PyProof.Draws
import PyProof.EnumMake
import PyProof.ListStr
import PyProof.TupleOfStr
import HandS.Conv
import PyProof.Rows.StrRev
import HandS.HeadHook3
import PyProof.Rows.StrLast
import Wide.Txt
import KE.GoesMore
import HandS.DictComp
import HandS.Sort
import HandS.SortInts
import HandS.Small
import HandS.Deep
import KE.KDictSum
import KE.KDictList
import HandS.Zip
import PyProof.StrWalks
import HandS.TryMany
import HandS.ExcField
import HandS.ExcIs
import KE.KTryMore
import KE.KIsAll
import HandS.ExcOwn
import HandS.ClsMeth
import HandS.HeadNt
import PyProof.ReprLen
import HandS.CallLocal
import HandS.OwnEq
import KE.KCallOwn
import KE.KEqDeep
import PyProof.Rows.ReprShort
import KE.KDictZip
import KE.DataMinMax
import KE.KRevSl
import HandS.SortKw
import HandS.WideBits
import HandS.Head0
import HandS.Head1
import HandS.Head2
import HandS.TupAny
import KE.IntTextLaws
import PyProof.StrLawsRepr
import KE.GoesZip
import KE.KEqNest
import KE.DatumOrd
import PyProof.NeKinds
import HandS.WordsDict
import HandS.Finally
import KE.KEqDict
import PySem.Challenge.RW_cratetowers_k40_patterns_told
set_option Elab.async false
set_option linter.all false
set_option maxRecDepth 100000
set_option maxHeartbeats 0
namespace U
open PySem PySem.Spec PyProof.Rows L2

/-! ### operators on values, by the values' kinds -/
section
variable {X : Cx}
def uAdd : R2 := fun x y H Q => match x, y with
  | .int i, .int j => Q (.int (i + j)) H
  | .str i, .str j => i.length + j.length ≤ sizeLine ∧ Q (.str (i ++ j)) H
  | .ref a, .ref b => rCat (.ref a) (.ref b) H Q
  | _, _ => False
theorem op_uAdd : OpR X (binaryOp .Add) uAdd := by
  intro pins s σ H x y u v Q I rx ry h
  cases x <;> cases y <;> first
    | exact (show False from h).elim
    | exact op_add pins s σ H _ _ u v Q I rx ry ⟨_, _, rfl, rfl, h⟩
    | exact op_add_str pins s σ H _ _ u v Q I rx ry ⟨_, _, rfl, rfl, h⟩
    | exact op_cat pins s σ H _ _ u v Q I rx ry h
def uSub : R2 := fun x y H Q => match x, y with
  | .int i, .int j => Q (.int (i - j)) H
  | _, _ => False
theorem op_uSub : OpR X (binaryOp .Sub) uSub := by
  intro pins s σ H x y u v Q I rx ry h
  cases x <;> cases y <;> first
    | exact (show False from h).elim
    | exact op_sub pins s σ H _ _ u v Q I rx ry ⟨_, _, rfl, rfl, h⟩
/-- a text, so many times -/
def rMulS : R2 := fun x y H Q => ∃ z n, x = .str z ∧ y = .int n ∧ 0 ≤ n ∧ n ≤ 1000 ∧ z.length ≤ 10000 ∧ Q (.str (Txt.mul z n)) H
theorem op_mulS : OpR X (binaryOp .Mult) rMulS := by
  intro ps s σ H x y v u R I rx ry h
  obtain ⟨z, n, rfl, rfl, h0, h1, h2, q⟩ := h
  obtain ⟨t, rfl⟩ := rx
  obtain ⟨t', rfl⟩ := ry
  refine SB.mul ⟨?_, ?_, ?_⟩ fun t' k => ⟨.str _, H, I.tok _, ⟨_, rfl⟩, q⟩
  · have e1 : ¬ n < -(2 ^ 63 : Int) := by omega
    have e2 : ¬ n ≥ 2 ^ 63 := by omega
    rw [decide_eq_false e1, decide_eq_false e2] <;> rfl
  · intro k1 _ k2
    have e : (z.length : Int) * n ≤ 10000 * 1000 := Int.mul_le_mul (by omega) h1 h0 (by omega)
    have e3 : (z.length : Int) ≤ (2 ^ 63 - 1) / n := Int.le_ediv_of_mul_le (by omega) (by omega)
    omega
  · intro _ _
    have e : z.length * n.toNat ≤ 10000 * 1000 := Nat.mul_le_mul h2 (by omega)
    have hs := sizeLine_eq
    show decide (_ > sizeLine) = false
    exact decide_eq_false (Nat.not_lt.mpr (by omega))
def uMul : R2 := fun x y H Q => match x, y with
  | .int i, .int j => CMul i j ∧ Q (.int (i * j)) H
  | .str z, .int n => 0 ≤ n ∧ n ≤ 1000 ∧ z.length ≤ 10000 ∧ Q (.str (Txt.mul z n)) H
  | .ref a, .int n => rRep (.ref a) (.int n) H Q
  | _, _ => False
theorem op_uMul : OpR X (binaryOp .Mult) uMul := by
  intro pins s σ H x y u v Q I rx ry h
  cases x <;> cases y <;> first
    | exact (show False from h).elim
    | exact op_mul pins s σ H _ _ u v Q I rx ry ⟨_, _, rfl, rfl, h⟩
    | exact op_mulS pins s σ H _ _ u v Q I rx ry ⟨_, _, rfl, rfl, h⟩
    | exact op_rep pins s σ H _ _ u v Q I rx ry h
def uDiv : R2 := fun x y H Q => match x, y with
  | .int i, .int j => CDivW i j ∧ Q (.int (i / j)) H
  | _, _ => False
theorem op_uDiv : OpR X (binaryOp .FloorDiv) uDiv := by
  intro pins s σ H x y u v Q I rx ry h
  cases x <;> cases y <;> first
    | exact (show False from h).elim
    | exact op_fdivW pins s σ H _ _ u v Q I rx ry ⟨_, _, rfl, rfl, h⟩
def uMod : R2 := fun x y H Q => match x, y with
  | .int i, .int j => 0 < j ∧ Q (.int (i % j)) H
  | _, _ => False
theorem op_uMod : OpR X (binaryOp .Mod) uMod := by
  intro pins s σ H x y u v Q I rx ry h
  cases x <;> cases y <;> first
    | exact (show False from h).elim
    | exact op_mod pins s σ H _ _ u v Q I rx ry ⟨_, _, rfl, rfl, h⟩
def uPow : R2 := fun x y H Q => match x, y with
  | .int i, .int j => CPow i j ∧ Q (.int (i ^ j.toNat)) H
  | _, _ => False
theorem op_uPow : OpR X (binaryOp .Pow) uPow := by
  intro pins s σ H x y u v Q I rx ry h
  cases x <;> cases y <;> first
    | exact (show False from h).elim
    | exact op_pow pins s σ H _ _ u v Q I rx ry ⟨_, _, rfl, rfl, h⟩
/-! comparisons -/
def uEq (K : PySem.W.Frag) : R2 := fun x y H Q => match x, y with
  | .ref a, y => rEqD K (.ref a) y H Q
  | .int i, .int j => Q (.bl (decide (i = j))) H
  | .str i, .str j => Q (.bl (decide (i = j))) H
  | .non, y => rEq .non y H Q
  | .bl b, y => rEq (.bl b) y H Q
  | .int i, .non => Q (.bl false) H
  | .str i, .non => Q (.bl false) H
  | _, _ => False
theorem op_uEq (hu : X.A.units + 64 < cLine) : OpR X (compareOp .Eq) (uEq X.K) := by
  intro pins s σ H x y u v Q I rx ry h
  cases x <;> cases y <;> first
    | exact (show False from h).elim
    | exact op_eqD hu pins s σ H _ _ u v Q I rx ry h
    | exact op_eq pins s σ H _ _ u v Q I rx ry h
    | exact op_eq pins s σ H _ _ u v Q I rx ry ⟨rfl, by simpa [uEq] using h⟩
def uNe (K : PySem.W.Frag) : R2 := fun x y H Q => match x, y with
  | .ref a, y => rNeD K (.ref a) y H Q
  | .int i, .int j => Q (.bl (!decide (i = j))) H
  | .str i, .str j => Q (.bl (!decide (i = j))) H
  | .non, y => rNe .non y H Q
  | .bl b, y => rNe (.bl b) y H Q
  | .int i, .non => Q (.bl true) H
  | .str i, .non => Q (.bl true) H
  | _, _ => False
theorem op_uNe (hu : X.A.units + 64 < cLine) : OpR X (compareOp .NotEq) (uNe X.K) := by
  intro pins s σ H x y u v Q I rx ry h
  cases x <;> cases y <;> first
    | exact (show False from h).elim
    | exact op_neD hu pins s σ H _ _ u v Q I rx ry h
    | exact op_ne pins s σ H _ _ u v Q I rx ry h
    | exact op_ne pins s σ H _ _ u v Q I rx ry ⟨rfl, by simpa [uNe] using h⟩
def uCmp (p : Int → Int → Bool) : R2 := fun x y H Q => match x, y with
  | .int i, .int j => Q (.bl (p i j)) H
  | _, _ => False
theorem uCmp_of {f : Value → Value → Sem Value} {p : Int → Int → Bool} (h : OpR X f (rI0 fun i j => .bl (p i j))) : OpR X f (uCmp p) := by
  intro pins s σ H x y u v Q I rx ry q
  cases x <;> cases y <;> first
    | exact (show False from q).elim
    | exact h pins s σ H _ _ u v Q I rx ry ⟨_, _, rfl, rfl, q⟩
abbrev uLt : R2 := uCmp fun i j => decide (i < j)
abbrev uLe : R2 := uCmp fun i j => decide (i ≤ j)
abbrev uGt : R2 := uCmp fun i j => decide (j < i)
abbrev uGe : R2 := uCmp fun i j => decide (j ≤ i)
theorem op_uLt : OpR X (compareOp .Lt) uLt := uCmp_of op_lt
theorem op_uLe : OpR X (compareOp .LtE) uLe := uCmp_of op_le
theorem op_uGt : OpR X (compareOp .Gt) uGt := uCmp_of op_gt
def uIs : R2 := fun x y H Q => match y with
  | .non => Q (.bl (decide (x = .non))) H
  | .bl b => (match x with
    | .bl a => Q (.bl (decide (a = b))) H
    | _ => False)
  | _ => False
theorem op_uIs : OpR X (compareOp .Is) uIs := by
  intro pins s σ H x y u v Q I rx ry h
  cases y <;> try exact (show False from h).elim
  · exact op_isN pins s σ H _ _ u v Q I rx ry ⟨rfl, h⟩
  · cases x <;> try exact (show False from h).elim
    exact op_isBl pins s σ H _ _ u v Q I rx ry ⟨_, _, rfl, rfl, h⟩
def uNis : R2 := fun x y H Q => match y with
  | .non => Q (.bl (!decide (x = .non))) H
  | .bl b => (match x with
    | .bl a => Q (.bl (!decide (a = b))) H
    | _ => False)
  | _ => False
theorem op_uNis : OpR X (compareOp .IsNot) uNis := by
  intro pins s σ H x y u v Q I rx ry h
  cases y <;> try exact (show False from h).elim
  · exact op_notN pins s σ H _ _ u v Q I rx ry ⟨rfl, h⟩
  · cases x <;> try exact (show False from h).elim
    exact op_notBl pins s σ H _ _ u v Q I rx ry ⟨_, _, rfl, rfl, h⟩
def uIn (K : PySem.W.Frag) (neg : Bool) : R2 := fun x y H Q => match y with
  | .ref p => rIn K neg x (.ref p) H Q
  | .str z => (match x with
    | .str i => Q (.bl (if neg then !(!(Builtin.Str.occurrences z i 0 z.length 1).isEmpty) else !(Builtin.Str.occurrences z i 0 z.length 1).isEmpty)) H
    | _ => False)
  | _ => False
theorem op_uIn : OpR X (compareOp .In) (uIn X.K false) := by
  intro pins s σ H x y u v Q I rx ry h
  cases y <;> try exact (show False from h).elim
  · cases x <;> try exact (show False from h).elim
    exact op_in_str pins s σ H _ _ u v Q I rx ry ⟨_, _, rfl, rfl, h⟩
  · exact op_in_seq pins s σ H _ _ u v Q I rx ry h
theorem op_uNin : OpR X (compareOp .NotIn) (uIn X.K true) := by
  intro pins s σ H x y u v Q I rx ry h
  cases y <;> try exact (show False from h).elim
  · cases x <;> try exact (show False from h).elim
    exact op_notIn_str pins s σ H _ _ u v Q I rx ry ⟨_, _, rfl, rfl, h⟩
  · exact op_notIn_seq pins s σ H _ _ u v Q I rx ry h
/-! subscripts -/
def uIx (K : PySem.W.Frag) : R2 := fun x y H Q => match x, y with
  | .str z, .int i => z.length ≤ sizeLine ∧ ∃ c, atI z.cps.toList i = some c ∧ Q (.str ⟨#[c]⟩) H
  | .ref p, .int i => ∃ xs v, (SqL K H p xs ∨ SqT K H p xs) ∧ atI xs i = some v ∧ Q v H
  | _, _ => False
theorem ix_u : IxR X (uIx X.K) := by
  intro ea eb pins s σ H x y u v Q I rx ry h
  cases x <;> cases y <;> try exact (show False from h).elim
  · obtain ⟨h1, c, h2, q⟩ := h
    exact ix_str ea eb pins s σ H _ _ u v Q I rx ry ⟨_, _, c, rfl, rfl, h1, h2, q⟩
  · obtain ⟨xs, z, hs | hs, h2, q⟩ := h
    · exact ix_list ea eb pins s σ H _ _ u v Q I rx ry ⟨_, xs, _, z, rfl, rfl, hs, h2, q⟩
    · exact ix_tup ea eb pins s σ H _ _ u v Q I rx ry ⟨_, xs, _, z, rfl, rfl, hs, h2, q⟩
def uSl (K : PySem.W.Frag) : V → Option Int → Option Int → Hp → VK → Prop := fun x lo hi H Q => match x with
  | .str z => z.length ≤ sizeLine ∧ Q (.str (cutS z lo hi)) H
  | .ref a => rSlL K (.ref a) lo hi H Q ∨ rSlT K (.ref a) lo hi H Q
  | _ => False
theorem sl_u : SlR X (uSl X.K) := by
  intro pins s σ H x v sl lo hi ulo uhi Q I rx hsl hlo hhi h
  cases x <;> try exact (show False from h).elim
  · exact sl_str pins s σ H _ v sl lo hi ulo uhi Q I rx hsl hlo hhi ⟨_, rfl, h⟩
  · rcases h with h | h
    · exact sl_list pins s σ H _ v sl lo hi ulo uhi Q I rx hsl hlo hhi h
    · exact sl_tup pins s σ H _ v sl lo hi ulo uhi Q I rx hsl hlo hhi h
/-! calls -/
def uLen (K : PySem.W.Frag) : List V → Hp → VK → Prop := fun xs H Q => match xs with
  | [.str z] => z.length ≤ sizeLine ∧ Q (.int z.length) H
  | [.ref p] => ∃ ys, (SqL K H p ys ∨ SqT K H p ys) ∧ Q (.int ys.length) H
  | _ => False
theorem call_uLen : CallR X (.builtin "len") (uLen X.K) := by
  intro ps s σ H xs us R I r h
  match xs, h with
  | [.str z], h => exact call_len_str ps s σ H _ us R I r ⟨_, rfl, h⟩
  | [.ref p], h =>
    obtain ⟨ys, hs, q⟩ := h
    exact call_len_seq ps s σ H _ us R I r ⟨p, ys, rfl, hs, q⟩
def uIsi (K : PySem.W.Frag) : List V → Hp → VK → Prop := fun xs H Q => match xs with
  | [x, .ty T] => ∃ t b, TyX K H x t ∧ PySem.W.kitOne K t (.type T) = some b ∧ Q (.bl b) H
  | [x, .ref c] => (∃ t b, TyX K H x t ∧ PySem.W.kitOne K t (.ref c) = some b ∧ Q (.bl b) H) ∨ ∃ cs us t b, H c = some (.tup cs) ∧ Paired ClsV cs us ∧ TyX K H x t ∧ PySem.W.kitAny K t us = some b ∧ Q (.bl b) H
  | _ => False
theorem call_uIsi : CallR X (.builtin "isinstance") (uIsi X.K) := by
  intro ps s σ H xs us R I r h
  match xs, h with
  | [x, .ty T], h =>
    obtain ⟨t, b, h1, h2, q⟩ := h
    exact call_isi ps s σ H _ us R I r ⟨x, _, t, _, b, rfl, .ty T, h1, h2, q⟩
  | [x, .ref c], h =>
    rcases h with ⟨t, b, h1, h2, q⟩ | ⟨cs, ws, t, b, h0, h3, h1, h2, q⟩
    · exact call_isi ps s σ H _ us R I r ⟨x, _, t, _, b, rfl, .own c, h1, h2, q⟩
    · exact call_isiT ps s σ H _ us R I r ⟨x, c, cs, t, ws, b, rfl, h0, h3, h1, h2, q⟩
/-- len of an instance whose class has its own __len__ -/
def rLenO (C : Addr) (sp : Sp) : List V → Hp → VK → Prop := fun xs H Q => ∃ a dx fs, xs = [.ref a] ∧ H a = some (.ins C dx fs) ∧ sp [.ref a] H (fun v H' => ∃ n : Int, v = .int n ∧ 0 ≤ n ∧ n < 2 ^ 63 ∧ Q (.int n) H') E0
theorem call_lenO {k : Nat} {C f : Addr} {fd : FuncData} {ps : List Str} {sp : Sp} (F : FnOk X.prog X.w X.K X.mg X.base (L2.CX X.prog X.w) k f fd ps sp) (m : Meth X.K C "__len__" f) (hr : Room (k + 1) X.A) (hb : Binds X.K fd ps []) :
    CallR X (.builtin "len") (rLenO C sp) := by
  intro ps' s σ H xs us R I r h
  obtain ⟨a, dx, fs, rfl, ea, h⟩ := h
  obtain rfl := Vals.ref1 r
  obtain ⟨_, O, _⟩ := ins_get I.hok ea
  obtain ⟨od, J, _⟩ := O.look
  obtain ⟨m', hF⟩ := I.fr
  refine PySem.W.len_K hF I.ok.mod.kin J m.at_ m.fn ?_
  have e0 : Env0 X.prog X.w X.K X.mg X.base X.A.in1 X.stack s H := I.env0.in1
  have hl := F.len _ _ _ _ h
  have r2 : Vals [.ref a] [.ref a] := (.cons (by rfl) .nil)
  refine wpAny_call (codeAny_mono (F.run X.A.in1 X.stack s H ⟨[.ref a], []⟩ [.ref a] [.ref a] _ E0 hr.in1 e0 (by
    have := hb s [.ref a] I.kIn (by simpa using hl)
    simpa using this) r2 h) fun r s' hq => ?_)
  cases r with
  | error e => exact passL ps' σ H s e s' I hq
  | ok fl =>
    cases fl with
    | ret w =>
      obtain ⟨z, H', I', rz, n, ez, h0, h1, q⟩ := I.after hq
      subst ez
      obtain ⟨t, rfl⟩ := rz
      exact ⟨⟨h0, h1⟩, ⟨.int n, H', I'.tok _, ⟨_, rfl⟩, q⟩⟩
    | next => exact False.elim hq
    | brk => exact False.elim hq
    | cont => exact False.elim hq
end
end U
namespace U
open PySem PySem.Spec PyProof.Rows L2

/-! ### promises kept where no text of a container is being made -/
structure FnG (P : Program) (w : World) (K : PySem.W.Frag) (mg : Str → Option Value) (base : Heap) (k : Nat) (f : Addr) (fd : FuncData) (ps : List Str) (sp : Sp) : Prop where
  len : ∀ (vs : List V) (H : Hp) (Q : VK) (E : XK), sp vs H Q E → vs.length = ps.length
  go : ∀ A : Around, A.guards = some [] → ∀ (outer : List Env) (s : Shared) (H : Hp) (ar : Args) (us : List Value) (vs : List V) (Q : VK) (E : XK),
    Room k A → Env0 P w K mg base A outer s H → BindsTo s fd ar (ps.zip us) → Vals vs us → sp vs H Q E → codeAny (model P w) A (.call (.ref f) ar) (CR (L2.CX P w) outer P w H s Q E) s
section
variable {P : Program} {w : World} {K : PySem.W.Frag} {mg : Str → Option Value} {base : Heap}
theorem FnG.of {k : Nat} {f : Addr} {fd : FuncData} {ps : List Str} {sp : Sp} (F : FnOk P w K mg base (L2.CX P w) k f fd ps sp) : FnG P w K mg base k f fd ps sp :=
  ⟨F.len, fun A _ outer s H ar us vs Q E r e b v q => F.run A outer s H ar us vs Q E r e b v q⟩
/-- a def by its body -/
theorem fnG_of {x qual : Str} {pa : Arguments} {bd : List Stmt} {sc : Scope} {f : Addr} {fd : FuncData} {N ps : List Str} {k : Nat} {sp : Sp} (F : FunD K x qual pa bd sc [] [] f fd) (S : FnScope N ps sc) (hlen : ∀ vs H Q E, sp vs H Q E → vs.length = ps.length)
    (hb : ∀ (cdv : Value) (A : Around) (outer : List Env) (s : Shared) (H : Hp) (vs : List V) (Q : VK) (E : XK), A.guards = some [] → Room k (A.deeper (envOfC qual sc s.heap.objs.size f cdv)) → sp vs H Q E →
      ∃ t, PSs (cxOf (L2.CX P w) P w K mg base N qual sc f cdv A outer s H E) bd t ∧ t { nx := fun _ H' => Q .non H', rt := Q } (start N vs) H) : FnG P w K mg base (k + 1) f fd ps sp := by
  obtain ⟨oc, od, dV, kV, doc, pm, an, cdv, ct, osl, hfd, hlk, hcode, _, _⟩ := F.ex
  subst hfd
  refine ⟨hlen, fun A hA outer s H ar us vs Q E room env bnd vls prom => ?_⟩
  have len1 := hlen _ _ _ _ prom
  have kin : K.In s.heap := e_kin env
  have nol : s.heap.NoLimit := env.mod.nolimit.keeps fun b o z => (env.bs b o z).1
  refine codeAny_call_function room.depth (kin _ _ hlk) rfl S.co S.gen rfl (PySem.W.codeRec_of kin hcode) (bnd _ _ _ _ ?_)
  refine wpAny_newFunctionEnv_cells S.kind (kinds_of S) fun en hen s1 ic => ?_
  cases hen
  refine ⟨nol.keeps ic.toInCall.keep, codeAny_func ?_⟩
  obtain ⟨t, der, rd⟩ := hb cdv A outer s H vs Q E hA (room.deeper _) prom
  have inv0 := inv_start (CX := L2.CX P w) (E := E) S room.hd env len1 vls ic
  refine wpAny_mono (der.run [] s1 (start N vs) H _ inv0 rd) (fun fl s' out => ?_) fun _ _ z => z
  match fl, out with
  | .ret u, ⟨v, σ', H', J, rv, q⟩ => exact ⟨v, H', J.os, J.bare, J.base, J.hok, rv, q⟩
  | .next, ⟨σ', H', J, q⟩ => exact ⟨.non, H', J.os, J.bare, J.base, J.hok, rfl, q⟩
  | .brk, ⟨_, _, _, q⟩ => exact q.elim
  | .cont, ⟨_, _, _, q⟩ => exact q.elim
where
  e_kin {A : Around} {outer : List Env} {s : Shared} {H : Hp} (env : Env0 P w K mg base A outer s H) : K.In s.heap := env.mod.kin.keeps fun b o z => (env.bs b o z).1
  kinds_of {N ps : List Str} {sc : Scope} (S : FnScope N ps sc) {n : Nat} {us : List Value} : ∀ y ∈ ps.zip us, sc.names.lookup y.1 = some .local ∨ (sc.names.lookup y.1 = some .cell ∧ ((cellsFrom n sc.names []).lookup y.1).isSome = true) :=
    fun y hy => (S.par y.1 (List.of_mem_zip (a := y.1) (b := y.2) hy).1).imp id fun q => ⟨q, PySem.W.cellsFrom_some _ _ _ (.inl q)⟩
end

/-! ### a def of the module under its name -/
structure Good (P : Program) (w : World) (K : PySem.W.Frag) (mg : Str → Option Value) (base : Heap) (k : Nat) (x : Str) (ps : List Str) (sp : Sp) : Prop where
  fn : ∃ fd, FnG P w K mg base k (He.ga K x) fd ps sp ∧ Binds K fd ps []
  mg : mg x = some (.ref (He.ga K x))
  kp : PySem.W.keepIn K (.ref (He.ga K x)) = true
/-- a method that asks no text of a container -/
structure GoodM (P : Program) (w : World) (K : PySem.W.Frag) (mg : Str → Option Value) (base : Heap) (k : Nat) (C m : Str) (ps : List Str) (sp : Sp) : Prop where
  fn : ∃ fd, FnOk P w K mg base (L2.CX P w) k (He.ma K (He.ga K C) m) fd ps sp ∧ Binds K fd ps []
  mt : Meth K (He.ga K C) m (He.ma K (He.ga K C) m)
  cl : Cls K (He.ga K C)
/-- f(..) -/
def tFn (sp : Sp) (E : XK) (t : TA) : TE := fun σ H Q => t σ H fun vs H1 => sp vs H1 Q E
section
variable {X : Cx} {k : Nat} {x m : Str} {ps : List Str} {sp : Sp} {E : XK} {p pos apos : Pos} {e o : Expr} {es : List Expr} {ta : TE} {t : TA}
theorem run_G {f : Addr} {fd : FuncData} {pins : List (Addr × Obj)} {σ : L2.St} {H : Hp} {s : Shared} {Q : VK} {us : List Value} {vs : List V} (F : FnG X.prog X.w X.K X.mg X.base k f fd ps sp) (hA : X.A.guards = some []) (hr : Room k X.A) (hb : Binds X.K fd ps [])
    (hx : Passes (L2.CX X.prog X.w) X E) (I : Inv X pins σ H s) (r : Vals vs us) (h : sp vs H Q E) : wpAny (model X.prog X.w) X.A (call (.ref f) us) (EP X pins σ Q) X.xe s := by
  have hl : (us ++ []).length = ps.length := by rw [List.append_nil, ← r.length]; exact F.len _ _ _ _ h
  have bb := hb s us I.kIn hl
  rw [List.append_nil] at bb
  refine wpAny_call (codeAny_mono (F.go X.A hA X.stack s H ⟨us, []⟩ us vs Q E hr I.env0 bb r h) fun res s' out => ?_)
  match res, out with
  | .error er, out => exact hx pins σ H s er s' I out
  | .ok (.ret u), out => exact I.after out
  | .ok .next, out => exact False.elim out
  | .ok .brk, out => exact False.elim out
  | .ok .cont, out => exact False.elim out
theorem pe_fn (g : Good X.prog X.w X.K X.mg X.base k x ps sp) (hA : X.A.guards = some []) (hr : Room k X.A) (hg : Gl X x) (hx : Passes (L2.CX X.prog X.w) X E)
    (hpl : (backTo pos (starEach es X.env)).any (·.1) = false := by rfl) (he : starEach (e :: es) X.env = (false, eval e X.env) :: starEach es X.env := by rfl) (ha : PA X (e :: es) t)
    (hdb : (x == ("__debug__" : Str)) = false := by decide) :
    PE X (.Call (.Name x p) (e :: es) [] pos) (tFn sp E t) := by
  obtain ⟨fd, F, hb⟩ := g.fn
  refine ⟨fun pins s σ H Q I h => ?_⟩
  refine wpAny_Call_Name_kw (ld_glob I hg g.mg ?_ hdb)
  exact PySem.W.callWith_K (h₀ := X.base) I.ok.mod.kin g.kp (thn (ha.run pos pins s σ H _ I h) fun us s1 z => by
    obtain ⟨vs, H1, I1, r, q⟩ := z
    exact ⟨I1.kIn, run_G F hA hr hb hx I1 r q⟩) he hpl
end

/-! ### a law's end -/
section
variable {P : Program} {w : World} {K : PySem.W.Frag} {mg mb : Str → Option Value} {k : Nat} {fa a : Addr} {fd : FuncData} {x : Str} {sp : Sp} {s1 : Shared} {vs : List Value} {ns : List Int}
/-- the script alone is tracked, locked, or nothing is -/
def One (a : Addr) (o : Obj) (xs : List V) (H : Hp) : Prop := ∀ b, H b = none ∨ (b = a ∧ H b = some (.frz o (.lst xs)))
theorem end_from (H : Hp) (o : Obj) (ho : s1.heap.get? a = some o) (hod : ∃ its n, o.data = .seq its n) (one : One a o (ns.map V.int) H) (hK : H a ≠ none → K.lookup a = none) (hok : HOk P w H s1.heap)
    (KX : K.In s1.heap) (hns : s1.heap.Ns mainGlobals mg) (hb : s1.heap.Ns builtinsNs mb) (hbb : ∀ x : Str, x ≠ "__name__" → mb x = bootBuiltins x) (hlim : s1.heap.NoLimit) (hg : s1.gens = #[]) (hr : Room k callerA)
    (F : ∀ base : Heap, K.In base → base.Ns mainGlobals mg → FnG P w K mg base k fa fd [x] sp) (hbind : ∀ (s : Shared) (u : Value), BindsTo s fd ⟨[u], []⟩ [(x, u)])
    (hsp : sp [.ref a] H (fun v _ => v = .bl true) fun _ _ _ => False) :
    codeAny (model P w) callerA (.call (.ref fa) ⟨[.ref a], []⟩) (fun r s' => r = .ok (.ret (.bool true)) ∧ OldK s1.heap s'.heap ∧ s'.os = s1.os ∧ AllBare s'.gens) s1 := by
  have only_a : ∀ b, b ≠ a → H b = none := fun b hb => (one b).elim id fun z => absurd z.1 hb
  have dict_free : ∀ b ob es ep, s1.heap.get? b = some ob → ob.data = .dict es ep → H b = none := fun b ob es ep e d => by
    by_cases q : b = a
    · obtain ⟨its, n, hd⟩ := hod
      rw [q, ho] at e
      rw [← Option.some.inj e, hd] at d
      cases d
    · exact only_a b q
  have ns_low : ∀ b (m : Str → Option Value), s1.heap.Ns b m → (hidT s1.heap H).Ns b m := fun b m z => by
    obtain ⟨ob, es, ep, e, d, r⟩ := z
    exact ⟨ob, es, ep, hidT_get e (dict_free b ob es ep e d), d, r⟩
  have k_low : K.In (hidT s1.heap H) := fun b ob e => by
    refine hidT_get (KX b ob e) ?_
    by_cases q : b = a
    · cases z : H b with
      | none => rfl
      | some u =>
        have y := hK (by rw [← q, z]; simp)
        rw [q, y] at e
        cases e
    · exact only_a b q
  obtain ⟨mc, l1, l2⟩ := hlim
  have md : Mod K mg (hidT s1.heap H) := ⟨k_low, ns_low _ _ hns, ⟨mb, ns_low _ _ hb, hbb⟩, ⟨mc, ns_low _ _ l1, l2⟩⟩
  have env : Env0 P w K mg (hidT s1.heap H) callerA [] s1 H :=
    { frames := rfl, mod := md, bs := fun b ob e => of_hidT e, bsz := Nat.le_of_eq (hidT_size _ _), funs := trivial, frf := fun b z => absurd z (by simp [frs]), hok := hok, bare := .of_eq hg }
  refine codeAny_mono ((F _ k_low (ns_low _ _ hns)).go callerA rfl [] s1 H ⟨[.ref a], []⟩ [.ref a] [.ref a] _ _ hr env (hbind s1 (.ref a)) (.cons rfl .nil) hsp) fun res s' out => ?_
  match res, out with
  | .error er, out =>
    obtain ⟨_, _, _, _, _, _, _, _, _, _, _, _, z⟩ := out
    exact z.elim
  | .ok .next, out => exact False.elim out
  | .ok .brk, out => exact False.elim out
  | .ok .cont, out => exact False.elim out
  | .ok (.ret u), out =>
    obtain ⟨v, H', eos, bare, un, hok', rv, ev⟩ := out
    have ev' : v = .bl true := ev
    subst ev'
    have eu : u = Value.bool true := rv
    refine ⟨by rw [eu], OldK.of_keep fun b ob e => ?_, eos, bare⟩
    rcases one b with q | ⟨q, z⟩
    · exact un.keep b ob e q (by simp [frs]) (by simp)
    · have z2 := un.frzs b _ _ z
      have y1 := (hok' b _ z2).1
      have y2 := (hok b _ z).1
      rw [← y2.symm.trans e |> Option.some.inj]
      exact y1
theorem end_G (KX : K.In s1.heap) (hns : s1.heap.Ns mainGlobals mg) (hb : s1.heap.Ns builtinsNs mb) (hbb : ∀ x : Str, x ≠ "__name__" → mb x = bootBuiltins x) (hlim : s1.heap.NoLimit) (hg : s1.gens = #[])
    (ha : s1.heap.get? a = some { cls := .type "list", data := .seq vs.toArray }) (hi : IntsAre vs ns) (hl : ns.length ≤ sizeLine) (hr : Room k callerA)
    (F : ∀ base : Heap, K.In base → base.Ns mainGlobals mg → FnG P w K mg base k fa fd [x] sp) (hbind : ∀ (s : Shared) (u : Value), BindsTo s fd ⟨[u], []⟩ [(x, u)])
    (hsp : ∀ H : Hp, (∀ b, H b = none ∨ ∃ o xs, H b = some (.frz o (.lst xs))) → SqL K H a (ns.map V.int) → sp [.ref a] H (fun v _ => v = .bl true) fun _ _ _ => False) :
    codeAny (model P w) callerA (.call (.ref fa) ⟨[.ref a], []⟩) (fun r s' => r = .ok (.ret (.bool true)) ∧ OldK s1.heap s'.heap ∧ s'.os = s1.os ∧ AllBare s'.gens) s1 := by
  have vv := vals_ints hi
  have ll := hi.length
  cases q : K.lookup a with
  | none =>
    have at_a : (fun b => if b = a then some (HO.frz { cls := .type "list", data := .seq vs.toArray } (.lst (ns.map V.int))) else none : Hp) a = some (.frz { cls := .type "list", data := .seq vs.toArray } (.lst (ns.map V.int))) := if_pos rfl
    have one : One a { cls := .type "list", data := .seq vs.toArray } (ns.map V.int) (fun b => if b = a then some (HO.frz { cls := .type "list", data := .seq vs.toArray } (.lst (ns.map V.int))) else none) := fun b => by
      by_cases e : b = a
      · exact .inr ⟨e, if_pos e⟩
      · exact .inl (if_neg e)
    refine end_from _ _ ha ⟨_, _, rfl⟩ one (fun _ => q) (fun b u z => ?_) KX hns hb hbb hlim hg hr F hbind (hsp _ (fun b => (one b).imp id fun z => ⟨_, _, z.2⟩) (.inl (.inr ⟨_, at_a⟩)))
    rcases one b with y | ⟨e, y⟩
    · cases y.symm.trans z
    · cases y.symm.trans z
      subst e
      exact ⟨ha, by rw [List.length_map]; exact hl, vs, _, vv, ha⟩
  | some ob =>
    have e := (KX a ob q).symm.trans ha
    have e2 := Option.some.inj e
    subst e2
    refine end_from (ns := ns) (fun _ => none) _ ha ⟨_, _, rfl⟩ (fun _ => .inl rfl) (fun z => absurd rfl z) (fun b u z => by cases z) KX hns hb hbb hlim hg hr F hbind
      (hsp _ (fun _ => .inl rfl) (.inr ⟨_, vs.toArray, _, q, rfl, rfl, rfl, by rw [List.size_toArray, ll]; exact hl, by simpa using vv⟩))
end
/-- a law from its head's facts, its def's promise kept where no text is under way -/
structure Owed (P : Program) (w : World) (h : Heap) (mg : Str → Option Value) (fa : Addr) (n k : Nat) (x : Str) : Prop where
  own : ∃ (K : PySem.W.Frag) (sp : Sp) (fd : FuncData), (∀ (s : Shared) (v : Value), BindsTo s fd ⟨[v], []⟩ [(x, v)]) ∧ K.In h ∧ (∀ base : Heap, K.In base → base.Ns mainGlobals mg → FnG P w K mg base k fa fd [x] sp) ∧
    ∀ (H : Hp) (a : Addr) (ns : List Int), ns.length ≤ n → (∀ z ∈ ns, Builtin.Int.intBits z ≤ 1048576) → SqL K H a (ns.map V.int) → sp [.ref a] H (fun v _ => v = .bl true) fun _ _ _ => False
theorem walk_G {l : PySem.W.OpenLaw} {n k : Nat} {q : Program} {loose : List Str} {XP : (Str → Option Value) → Heap → Prop} {YP : World → Heap → Prop} {d : DefRec} {x : Str} (room : Room k callerA) (most : l.most = some n) (fits : n ≤ sizeLine) (nodef : d.params.defaults = [])
    (owed : ∀ (w : World) (mg : Str → Option Value) (fa : Addr) (h : Heap), mg d.name = some (.ref fa) → YP w h → h.Ns mainGlobals mg → Owed l.prog w h mg fa n k x) : PySem.W.WalkO q loose XP YP l.row.toRowW d [] fun f vs => PySem.call f vs := by
  refine Att.attach_callB most nodef fun w s0 s1 mg mb fa o pm cd doc a vs ns G Y ho hd hcd named hobj hints hlen hbits hg => ?_
  obtain ⟨K, sp, fd, binds, kin, keeps, asks⟩ := (owed w mg fa _ named Y G.T.g).own
  exact end_G kin G.T.g G.T.b G.T.builtins G.T.nolimit hg hobj hints (Nat.le_trans hlen fits) room keeps binds fun H _ hS => asks H a ns hlen hbits hS
end U
namespace U
open PySem PySem.Spec PyProof.Rows L2

section
variable {X : Cx} {p pos apos : Pos} {e o : Expr} {es : List Expr} {t ta : TA} {te : TE}
/-! ### module constants -/
theorem pe_int_of {x : Str} {i : Int} (hg : Gl X x) (h : ∃ t, X.mg x = some (.int i t)) (hd : (x == ("__debug__" : Str)) = false := by decide) : PE X (.Name x pos) (tC (.int i)) := by
  obtain ⟨t, h⟩ := h
  exact pe_glob hg h ⟨t, rfl⟩ hd
theorem pe_str_of {x z : Str} (hg : Gl X x) (h : ∃ t, X.mg x = some (.str z t)) (hd : (x == ("__debug__" : Str)) = false := by decide) : PE X (.Name x pos) (tC (.str z)) := by
  obtain ⟨t, h⟩ := h
  exact pe_glob hg h ⟨t, rfl⟩ hd
/-! ### objects of one's own class -/
theorem pe_mk {k : Nat} {x : Str} {ps : List Str} {sp : Sp} {E : XK} (g : GoodM X.prog X.w X.K X.mg X.base k x "__init__" ps sp) (M : Mk X.K (He.ga X.K x) (He.ma X.K (He.ga X.K x) "__init__")) (hm : X.mg x = some (.ref (He.ga X.K x))) (hr : Room (k + 1) X.A) (hg : Gl X x) (hx : Passes (L2.CX X.prog X.w) X E)
    (hpl : (backTo pos (starEach es X.env)).any (·.1) = false := by rfl) (he : starEach (e :: es) X.env = (false, eval e X.env) :: starEach es X.env := by rfl) (ha : PA X (e :: es) t)
    (hdb : (x == ("__debug__" : Str)) = false := by decide) :
    PE X (.Call (.Name x p) (e :: es) [] pos) (tMake (He.ga X.K x) sp [] E t) := by
  obtain ⟨fd, F, hb⟩ := g.fn
  exact pe_make M F hr hg hm hb .nil hx ha hdb he hpl
theorem pe_lenY {k : Nat} {C : Str} {ps : List Str} {sp : Sp} (g : GoodM X.prog X.w X.K X.mg X.base k C "__len__" ps sp) (hr : Room (k + 1) X.A) (hg : Gl X "len") (hm : X.mg "len" = none) (ha : PA X [e] t)
    (he : starEach [e] X.env = [(false, eval e X.env)] := by rfl) : PE X (.Call (.Name "len" p) [e] [] pos) (tCB (rLenO (He.ga X.K C) sp) t) := by
  obtain ⟨fd, F, hb⟩ := g.fn
  exact pe_callB (es := []) (call_lenO F g.mt hr hb) hg hm boot_len ha (he := he)
/-! ### built-ins under short names -/
def uMax2 : List V → Hp → VK → Prop := fun xs H Q => ∃ i j, xs = [.int i, .int j] ∧ Q (.int (if j > i then j else i)) H
def uMin2 : List V → Hp → VK → Prop := fun xs H Q => ∃ i j, xs = [.int i, .int j] ∧ Q (.int (if j < i then j else i)) H
def rInt : List V → Hp → VK → Prop := fun xs H Q => (∃ i, xs = [.int i] ∧ Q (.int i) H) ∨ ∃ k, xs = [.bl k] ∧ Q (.int (if k then 1 else 0)) H
/-! ### the text of a value -/
/-! ### methods of texts -/
def rJoin (K : PySem.W.Frag) : V → List V → Hp → VK → Prop := fun x xs H Q => ∃ a p, ∃ ys : List Str, x = .str a ∧ xs = [.ref p] ∧ (SqL K H p (ys.map V.str) ∨ SqT K H p (ys.map V.str)) ∧ (ys.map (·.length)).sum + ys.length * a.length ≤ 16777216 ∧ Q (.str (Txt.join a ys)) H
/-- sep.join(e), one argument: told over the argument list -/
def tJoin (K : PySem.W.Frag) (to : TE) (te : TE) : TE := tM1 (rJoin K) to te
theorem pe_joinU (ho : PE X o te) {td : TE} (he : PE X e td) (hs : starEach [e] X.env = [(false, eval e X.env)] := by rfl) (hbase : attributeBase o "join" X.env (eval o X.env) = eval o X.env := by rfl) (hline : (apos.endLine == pos.line) = true := by rfl) :
    PE X (.Call (.Attribute o "join" apos) [e] [] pos) (tJoin X.K te td) := pe_join ho he hs hbase hline
/-! ### list(..), tuple(..) -/
def strL (z : Str) : List V := z.cps.toList.map fun c => .str ⟨#[c]⟩
def uLst (K : PySem.W.Frag) : List V → Hp → VK → Prop := fun xs H Q => match xs with
  | [.ref p] => ∃ ys, (SqL K H p ys ∨ SqT K H p ys) ∧ ∀ l, H l = none → Q (.ref l) (upd H l (.lst ys))
  | [.str z] => z.length ≤ 100000 ∧ ∀ l, H l = none → Q (.ref l) (upd H l (.lst (strL z)))
  | _ => False
theorem vals_signs {z : Str} {acc : Array Value} (h : ItemsOf (SignAt z) acc z.cps.size) : Vals (strL z) acc.toList := by
  refine vals_of_at ?_ fun j x u hx hu => ?_
  · unfold strL
    rw [List.length_map, Array.length_toList, Array.length_toList, h.1]
  · unfold strL at hx
    rw [List.getElem?_map] at hx
    obtain ⟨c, hc, rfl⟩ := Option.map_eq_some_iff.mp hx
    obtain ⟨c', u', h1, h2⟩ := h.2 j u (by rw [← Array.getElem?_toList]; exact hu)
    rw [Array.getElem?_toList, h1] at hc
    cases hc
    exact ⟨u', h2⟩
theorem call_uLst (hc : X.calm = true) : CallR X (.type "list") (uLst X.K) := by
  intro ps s σ H xs us R I r h
  match xs, h with
  | [.ref p], ⟨ys, hs, q⟩ => exact call_list_of ps s σ H _ us R I r ⟨p, ys, rfl, hs, q⟩
  | [.str z], ⟨hz, q⟩ =>
    obtain ⟨_, rfl, t, rfl⟩ := vals1 r
    have hs := sizeLine_eq
    have hz' : z.cps.size ≤ 100000 := hz
    refine PySem.call_list_str (I.ok.hd hc) z t (fun h' tk acc c kp e it => ?_) (by omega)
    refine ⟨.ref s.heap.objs.size, _, I.laid (t' := tk) kp (Nat.le_refl _) (show ObjOk X.prog X.w _ h' _ (.lst (strL z)) from ⟨?_, acc.toList, c, vals_signs it, e⟩), rfl, q _ (I.hok.fresh (Nat.le_refl _))⟩
    unfold strL
    simp only [List.length_map, Array.length_toList]
    omega
def uTup (K : PySem.W.Frag) : List V → Hp → VK → Prop := fun xs H Q => match xs with
  | [.ref p] => ∃ ys, (SqL K H p ys ∧ ∀ l, H l = none → Q (.ref l) (upd H l (.tup ys))) ∨ (SqT K H p ys ∧ Q (.ref p) H)
  | [.str z] => z.length ≤ 100000 ∧ ∀ l, H l = none → Q (.ref l) (upd H l (.tup (strL z)))
  | _ => False
theorem call_uTup (hc : X.calm = true) : CallR X (.type "tuple") (uTup X.K) := by
  intro ps s σ H xs us R I r h
  match xs, h with
  | [.ref p], ⟨ys, h⟩ => exact call_tuple_of ps s σ H _ us R I r ⟨p, ys, rfl, h⟩
  | [.str z], ⟨hz, q⟩ =>
    obtain ⟨_, rfl, t, rfl⟩ := vals1 r
    have hs := sizeLine_eq
    have hz' : z.cps.size ≤ 100000 := hz
    refine PySem.call_tuple_str (I.ok.hd hc) z t (fun h' tk acc kp it => ?_) (by omega)
    have I1 := I.kept (h' := h') (t' := s.toks) kp
    have I2 : Inv X ps σ (upd H h'.objs.size (.tup (strL z))) { s with heap := h'.push { cls := .type "tuple", data := .seq acc }, toks := tk } :=
      I1.laid (t' := tk) (fun b o e => Heap.get?_push_of_some _ e) (Nat.le_refl _) (show ObjOk X.prog X.w _ _ _ (.tup (strL z)) from ⟨by
        unfold strL
        simp only [List.length_map, Array.length_toList]
        omega, acc.toList, vals_signs it, IsTup.new _ _⟩)
    refine ⟨.ref h'.objs.size, _, I2, rfl, ?_⟩
    exact q _ (I1.hok.fresh (Nat.le_refl _))
/-! ### what a for walks: a list or a tuple -/
def iSeq (K : PySem.W.Frag) (tl : TE) : TI := fun σ H R => iList K tl σ H R ∨ iTup K tl σ H R
theorem pi_seq {tg l : Expr} {tl : TE} (hl : PE X l tl) : PI X tg l (iSeq X.K tl) := by
  refine .mk ?_
  intro pins s σ H R I h
  rcases h with h | h
  · exact (pi_list hl).run pins s σ H R I h
  · exact (pi_tup hl).run pins s σ H R I h
def tTruth (K : PySem.W.Frag) (ta : TE) : TT := fun σ H Q => ta σ H fun x H' => ∃ k, TruV K x H' k ∧ Q k H'

end
end U
namespace U
open PySem PySem.Spec PyProof.Rows L2

/-! ### enumerate(text) -/
def IteS (z : Str) : It :=
  ⟨fun i _ => i < z.cps.size, fun i H v H' => ∃ T c, v = .ref T ∧ H T = none ∧ z.cps[i]? = some c ∧ H' = upd H T (.tup [.int (i : Nat), .str ⟨#[c]⟩]), fun i _ => i = z.cps.size⟩
/-- the text's own iterator at it, at its i-th sign -/
def SIt (it : Addr) (z : Str) (t : Tok) (i : Nat) (h : Heap) : Prop := h.IsStrIter it (strIterType z) z t i
theorem draws_str {P : Program} {w : World} {A : Around} (hh : A.handled = none) (it : Addr) (z : Str) (t : Tok) :
    Draws P w A it [it] z.cps.size (fun i v => ∃ c u, z.cps[i]? = some c ∧ v = .str ⟨#[c]⟩ u) (SIt it z t) := by
  unfold SIt strIterType
  split
  · exact Draws.strAscii hh it z t
  · exact Draws.strWide hh it z t
theorem turn_enumS {P : Program} {w : World} {K : PySem.W.Frag} {el : List Expr} {kk : Nat} {tp : Pos} (z : Str) (t : Tok) (e it : Addr) :
    Turn P w K (.Tuple el kk tp) (IteS z) [e, it] e (fun i h => (∃ old, IsEnum h e it ((i : Nat) : Int) old) ∧ SIt it z t i h ∧ e ≠ it) where
  mem := by simp
  obj := fun i h st b hb => by
    obtain ⟨⟨last, he⟩, itr, _⟩ := st
    obtain ⟨o, ho, hc, hd⟩ := itr
    rcases (show b = e ∨ b = it by simpa using hb) with q | q
    · subst q
      exact ⟨_, he, fun v q => nomatch q⟩
    · subst q
      exact ⟨o, ho, fun v q => by rw [hd] at q; cases q⟩
  keep := fun i h h' st k => by
    obtain ⟨⟨old, he⟩, ⟨o, ho, r⟩, ne⟩ := st
    exact ⟨⟨old, k e (by simp) _ he⟩, ⟨o, k it (by simp) o ho, r⟩, ne⟩
  item := by
    intro X hP hw hK hc
    intro i pins s σ H E I hf st hg
    subst hP hw hK
    obtain ⟨⟨old, he⟩, hit, ne⟩ := st
    have le := Heap.lt_size he
    have li : it < s.heap.objs.size := by
      obtain ⟨_, q, _⟩ := id hit
      exact Heap.lt_size q
    refine wpAny_pyNext_enum_itemD (draws_str (A := X.A.in1) (I.ok.hd hc) it z t) he hit hg ne (by simpa using ne) fun x h1 tk hx ho hit1 hT hz1 k1 => ?_
    obtain ⟨c, u, hcz, rfl⟩ := hx
    refine ⟨_, rfl, wpAny_letOwnedTupleGo_enum (s := { s with heap := h1, toks := tk + 1 }) ho fun h2 he2 sb => ?_⟩
    have T2 : h2.get? s.heap.objs.size = some { cls := .type "tuple", data := .seq #[.int i tk, .str ⟨#[c]⟩ u] } := (sb.2 _ (Nat.ne_of_gt le)).trans hT
    have new : ObjOk X.prog X.w (upd H s.heap.objs.size (.tup [.int (i : Nat), .str ⟨#[c]⟩])) h2 s.heap.objs.size (.tup [.int (i : Nat), .str ⟨#[c]⟩]) :=
      ⟨by show 2 ≤ sizeLine; decide, [.int i tk, .str ⟨#[c]⟩ u], .cons ⟨_, rfl⟩ (.cons ⟨_, rfl⟩ .nil), ⟨_, T2, rfl, _, rfl⟩⟩
    have I1 : Inv X pins σ (upd H s.heap.objs.size (.tup [.int (i : Nat), .str ⟨#[c]⟩])) { s with heap := h2, toks := tk + 1 } :=
      I.turnedNew (ch := [e, it]) (fun b ob hb q => (sb.2 b (fun y => hb (by simp [y]))).trans (k1 b ob (fun y => hb (by simp [y])) (fun y => hb (by simp [y])) q)) hf (Nat.le_refl _) new
    refine ⟨.ref s.heap.objs.size, _, I1, rfl, ⟨_, c, rfl, I.hok.fresh (Nat.le_refl _), hcz, rfl⟩, ⟨⟨.str ⟨#[c]⟩ u, ?_⟩, ?_, ne⟩, fun b hb => ?_⟩
    · rw [show ((i + 1 : Nat) : Int) = i + 1 by omega]
      exact he2
    · obtain ⟨o, q1, q2⟩ := hit1
      exact ⟨o, (sb.2 it (Ne.symm ne)).trans q1, q2⟩
    · have below : b < s.heap.objs.size := by
        rcases (show b = e ∨ b = it by simpa using hb) with q | q
        · rw [q]; exact le
        · rw [q]; exact li
      rw [upd_ne (Nat.ne_of_lt below)]
      exact (hf b hb).1
  done := by
    intro X hP hw hK hc
    intro i pins s σ H E I hf st hg
    subst hP hw hK
    obtain ⟨⟨old, he⟩, hit, ne⟩ := st
    obtain ⟨f0, f1, _, f3, f4, f5⟩ := hf it (by simp)
    have hi : i = z.cps.size := hg
    subst hi
    exact wpAny_pyNext_enum_endD (draws_str (A := X.A.in1) (I.ok.hd hc) it z t) he hit fun h' eb => ⟨rfl, I.turned (t' := s.toks) (fun b o hb q => eb b o hb q) f0 f1 f3 f4 f5⟩
  self := fun _ _ _ _ _ st h => by
    obtain ⟨⟨_, he⟩, _⟩ := st
    exact wpAny_pyIter_enum he h

def iEnumS (ta : TA) : TI := fun σ H R => ta σ H fun vs H1 => ∃ z, vs = [.str z] ∧ R (IteS z) H1
theorem pi_enumS {X : Cx} {e : Expr} {ta : TA} {p pos tpos : Pos} {elts : List Expr} {kk : Nat} (hg : Gl X "enumerate") (hm : X.mg "enumerate" = none) (ha : PA X [e] ta) (hs : starEach [e] X.env = [(false, eval e X.env)] := by rfl) :
    PI X (.Tuple elts kk tpos) (.Call (.Name "enumerate" p) [e] [] pos) (iEnumS ta) := by
  refine .mk ?_
  intro pins s σ H R I h
  refine Call_ (ld_blt I hg hm boot_enumerate (PyProof.Rows.callWith_type1 (thn (ha.run pos pins s σ H _ I h) fun us s1 z => ?_) hs rfl))
  obtain ⟨vs, H1, I1, r1, z, ex, q⟩ := z
  subst ex
  obtain ⟨u, rfl, t, rfl⟩ := vals1 r1
  refine PySem.call_enumerate_str fun h' he hit hsz hk => wpAny_pyIter_enum he ?_
  have I2 : Inv X pins σ H1 { s1 with heap := h' } := by
    exact I1.kept (t' := s1.toks) hk
  refine ⟨s1.heap.objs.size + 1, [s1.heap.objs.size + 1, s1.heap.objs.size], _, _, H1, rfl, I2, turn_enumS z t (s1.heap.objs.size + 1) s1.heap.objs.size, ⟨⟨.none, he⟩, hit, Nat.succ_ne_self _⟩, fun b hb => ?_, q⟩
  have hb2 : s1.heap.objs.size ≤ b := by
    rcases (show b = s1.heap.objs.size + 1 ∨ b = s1.heap.objs.size by simpa using hb) with q | q
    · exact q ▸ Nat.le_succ _
    · exact q ▸ Nat.le_refl _
  exact I1.fpOk hb2 (I1.hok.fresh hb2)
def iEnumU (K : PySem.W.Frag) (ta : TA) : TI := fun σ H R => iEnum K ta σ H R ∨ iEnumS ta σ H R
theorem pi_enumU {X : Cx} {e : Expr} {ta : TA} {p pos tpos : Pos} {elts : List Expr} {kk : Nat} (hg : Gl X "enumerate") (hm : X.mg "enumerate" = none) (ha : PA X [e] ta) (hs : starEach [e] X.env = [(false, eval e X.env)] := by rfl) :
    PI X (.Tuple elts kk tpos) (.Call (.Name "enumerate" p) [e] [] pos) (iEnumU X.K ta) := by
  refine .mk ?_
  intro pins s σ H R I h
  rcases h with h | h
  · exact (pi_enum hg hm ha hs).run pins s σ H R I h
  · exact (pi_enumS hg hm ha hs).run pins s σ H R I h
/-! ### comprehensions and loops, seen from their turns -/
/-- what an element does to the list under way at D -/
def Snoc (D : Addr) (N : Hp → Prop) : VK := fun y H => ∃ acc : List V, H D = some (.lst acc) ∧ acc.length < sizeLine ∧ N (upd H D (.lst (acc ++ [y])))
/-- one turn of a comprehension -/
def lcT (g : TG) (tt : TT) (te : TE) (vs : List Nat) (σ : L2.St) (D : Addr) (N : Hp → Prop) (x : V) (H : Hp) : Prop :=
  g x (wipe σ vs) H fun τ H2 => wipe τ vs = wipe σ vs ∧ tt τ H2 fun b H3 => if b = true then te τ H3 (Snoc D N) else N H3
/-- turns of an iterator to its end: B x H N is a turn behind which N holds -/
def Laps (J : It) (H0 : Hp) (fin : Hp → Prop) (B : V → Hp → (Hp → Prop) → Prop) : Prop :=
  ∃ W : Nat → Nat → Hp → Prop, (∃ m, W 0 m H0) ∧ ∀ (i m : Nat) (H : Hp), W i m H →
    (J.stop i H ∧ fin H) ∨ (J.go i H ∧ ∃ N : Hp → Prop, (∀ H', N H' → ∃ l, l < m ∧ W (i + 1) l H') ∧ ∀ x H', J.yld i H x H' → B x H' N)
def LcB (J : It) (g : TG) (tt : TT) (te : TE) (vs : List Nat) (σ : L2.St) (H : Hp) (D : Addr) (fin : Hp → Prop) : Prop :=
  Laps J (upd H D (.lst [])) fin fun x H' N => lcT g tt te vs σ D N x H'
end U
namespace U
open PySem PySem.Spec PyProof.Rows L2

/-! ### text[::-1] -/
def tRevS (te : TE) : TE := fun σ H Q => te σ H fun x H1 => ∃ z, x = .str z ∧ z.length ≤ sizeLine ∧ ∀ u, Q (.str (Txt.sliceBy z none none (-1, u))) H1
theorem pe_revS {X : Cx} {e : Expr} {te : TE} {k : Nat} {p1 p2 p3 pos : Pos} (he : PE X e te) : PE X (.Subscript e (.Slice none none (some (.UnaryOp .USub (.Constant (.int 1) k p1) p2)) p3) pos) (tRevS te) := by
  refine ⟨fun pins s σ H Q I h => ?_⟩
  refine Subscript_ (thn (he.run pins s σ H _ I h) fun v s1 z => ?_)
  obtain ⟨x, H1, I1, r1, y, ex, hz, q⟩ := z
  subst ex
  obtain ⟨t, rfl⟩ := r1
  have neg1 : PO X (some (.UnaryOp .USub (.Constant (.int 1) k p1) p2)) (tPart (tUn (rU fun i => .int (-i)) (tC (.int 1)))) := po_some (pe_un un_neg pe_int)
  rw [show eval (.Slice none none (some (.UnaryOp .USub (.Constant (.int 1) k p1) p2)) p3) X.env = eval (.Slice none none (some (.UnaryOp .USub (.Constant (.int 1) k p1) p2)) p3) X.env from rfl]
  refine wpAny_Slice ?_
  rw [evalPart_none]
  apply wpAny_pure
  apply wpAny_pure
  refine thn (neg1.run pins s1 σ H1 (fun o H4 => o = some (-1) ∧ H4 = H1) I1 ⟨1, rfl, -1, rfl, rfl, rfl⟩) fun vs s4 z => ?_
  obtain ⟨o, H4, I4, ps, eo, e4⟩ := z
  subst eo e4
  obtain ⟨l, el, em⟩ := IsPart.raw ps
  obtain ⟨u, rfl⟩ : ∃ u, l = some (-1, u) := by
    cases l with
    | none => cases em
    | some pr =>
      obtain ⟨a, u⟩ := pr
      have e2 : a = -1 := Option.some.inj em
      exact ⟨u, by rw [e2]⟩
  subst el
  refine tail_any (ops := [.ref s4.heap.objs.size, .str y t]) (typeIs_str _ _ _) F.slot_str_getitem.lookup
    (wpAny_getItem_str_slice (l := none) (u := none) (st := some (-1, u)) ⟨_, Heap.get?_push_size _ rfl, rfl, rfl⟩ rfl ?_) (by with_unfolding_all rfl)
  exact post_val_or_str ⟨Nat.le_trans (Txt.sliceBy_le y _ _ (-1, u) (by show (-1 : Int) ≠ 0; decide)) hz, fun t' c => ⟨.str (Txt.sliceBy y none none (-1, u)), H4, I4.kept (t' := c) fun b ob z => Heap.get?_push_of_some _ z, ⟨_, rfl⟩, q u⟩⟩
/-! ### raise C(e) of one's own exceptions, whose __init__ keeps one field -/
/-- what the written part says of such a class -/
def oexB (K : PySem.W.Frag) (C : Addr) : Bool := match K.lookup C with
  | some ⟨.type "type", dd, .cls cd, sl⟩ => (match cd.mro, sl.toList with
    | .ref C' :: bm, [_, _, _, _, some (.builtin n), _] => (C' == C && n == "ValueError.__new__") && (!cd.hasDel && cd.hasDict && PySem.HandSPX.refsVE bm)
    | _, _ => false)
  | _ => false
theorem oexB_ok {K : PySem.W.Frag} {C : Addr} (q : oexB K C = true) : ∃ nm qn N bs bm sn sub ab col dd k0 k1 k2 k3 k5, K.lookup C = some (excClassObj nm qn C N bs bm true sn sub ab col dd k0 k1 k2 k3 k5 "ValueError.__new__") ∧ PySem.HandSPX.refsVE bm = true := by
  unfold oexB at q
  split at q
  · rename_i dd cd sl ho
    split at q
    · rename_i own rest a0 a1 a2 a3 maker a5 order cells
      simp only [Bool.not_eq_true', beq_iff_eq, Bool.and_eq_true] at q
      obtain ⟨⟨eo, em⟩, ⟨nodel, dict1⟩, ground⟩ := q
      subst eo em
      obtain ⟨name, bases, line, space, qname, hasd, sl1, sl2, abst, coll, dels⟩ := cd
      dsimp only at order nodel dict1
      subst order nodel dict1
      have row : sl = #[a0, a1, a2, a3, some (.builtin "ValueError.__new__"), a5] := by
        obtain ⟨l⟩ := sl
        exact congrArg Array.mk cells
      subst row
      exact ⟨name, qname, space, bases, rest, sl1, sl2, abst, coll, dd, a0, a1, a2, a3, a5, ho, ground⟩
    · cases q
  · cases q
/-- all that the head tells of an exception class -/
def excB (K : PySem.W.Frag) (x f : Str) : Bool := oexB K (He.ga K x) && (He.eqO (PySem.W.findIn K (.ref (He.ga K x)) "__setattr__") (some (some (.builtin "object.__setattr__"))) && (decide (PySem.W.subIn K (.ref (He.ga K x)) (.type "BaseException") = some true) &&
  (decide (PySem.W.typeIn K (.ref (He.ga K x)) = some (.type "type")) && (PySem.W.keepIn K (.ref (He.ga K x)) && (He.eqO (PySem.W.findIn K (.ref (He.ga K x)) f) (some none) &&
  (He.eqO (PySem.W.findIn K (.ref (He.ga K x)) "__init__") (some (some (.ref (He.ma K (He.ga K x) "__init__")))) && decide (PySem.W.typeIn K (.ref (He.ma K (He.ga K x) "__init__")) = some (.type "function"))))))))
structure ExcT (K : PySem.W.Frag) (x f : Str) : Prop where
  oc : OexC K (He.ga K x)
  nf : PySem.W.findIn K (.ref (He.ga K x)) f = some none
  ini : PySem.W.findIn K (.ref (He.ga K x)) "__init__" = some (some (.ref (He.ma K (He.ga K x) "__init__")))
  fn : PySem.W.typeIn K (.ref (He.ma K (He.ga K x) "__init__")) = some (.type "function")
theorem excB_ok {K : PySem.W.Frag} {x f : Str} (h : excB K x f = true) : ExcT K x f := by
  unfold excB at h
  simp only [decide_eq_true_eq, Bool.and_eq_true] at h
  obtain ⟨h1, h2, h3, h4, h5, h6, h7, h8⟩ := h
  exact ⟨⟨oexB_ok h1, He.eqO_ok h2, h3, h4, h5⟩, He.eqO_ok h6, He.eqO_ok h7, h8⟩
/-- the promise of its __init__ -/
def spExcI (K : PySem.W.Frag) (x f : Str) : Sp := fun vs H Q _ => ∃ (a : Addr) (v : V), vs = [.ref a, v] ∧ H a = some (exo a (He.ga K x) none) ∧ ∀ dx, H dx = none → dx ≠ a → Q .non (upd (upd H dx (exd dx [(f, v)])) a (exo a (He.ga K x) (some dx)))
theorem spExcI_len {K : PySem.W.Frag} {x f : Str} {n : Str} : ∀ vs H Q E, spExcI K x f vs H Q E → vs.length = (["self", n] : List Str).length := by
  intro vs H Q E h
  obtain ⟨a, v, rfl, _⟩ := h
  rfl
theorem read_excI {K : PySem.W.Frag} {x f : Str} (T : ExcT K x f) {vs : List V} {H : Hp} {Q : VK} {E : XK} (h : spExcI K x f vs H Q E) {n : Str} :
    tOst K f (tVar 0) (tVar 1) { nx := fun _ H' => Q .non H', rt := Q } (start ["self", n] vs) H := by
  obtain ⟨a, v, rfl, ha, q⟩ := h
  exact ⟨v, rfl, .ref a, rfl, a, He.ga K x, rfl, T.oc, T.nf, .inl ⟨ha, q⟩⟩
/-- an own exception class that may be raised -/
structure GoodX (P : Program) (w : World) (K : PySem.W.Frag) (mg : Str → Option Value) (base : Heap) (x f : Str) : Prop where
  fn : ∃ fd, FnOk P w K mg base (L2.CX P w) 1 (He.ma K (He.ga K x) "__init__") fd ["self", f] (spExcI K x f) ∧ Binds K fd ["self", f] []
  t : ExcT K x f
  mg : mg x = some (.ref (He.ga K x))
def tRse (K : PySem.W.Frag) (c f : Str) (E : XK) (ta : TA) : TS := fun _ σ H => tMkO (He.ga K c) (spExcI K c f) [] ta σ H fun cls d H' => E cls d H'
theorem back_one {H1 : Hp} {a dx : Addr} {fs : List (Str × V)} {o1 o2 o3 : HO} (ha : H1 a = none) (hne : dx ≠ a) : upd (del (upd (upd (upd H1 a o1) dx o2) a o3) a) dx (.xd fs) = upd H1 dx (.xd fs) := by
  funext b
  unfold upd del
  by_cases h1 : b = dx
  · rw [if_pos h1, if_pos h1]
  · rw [if_neg h1, if_neg h1]
    by_cases h2 : b = a
    · rw [if_pos h2, h2, ha]
    · simp only [if_neg h2, if_neg h1]
theorem ps_rse {X : Cx} {c f : Str} {E : XK} {e : Expr} {ta : TA} {p pos pos2 : Pos} (g : GoodX X.prog X.w X.K X.mg X.base c f) (hr : Room 2 X.A) (hc : X.calm = true) (tk : Takes X fun cls d _ H => E cls d H) (hg : Gl X c) (ha : PA X [e] ta)
    (hdb : (c == ("__debug__" : Str)) = false := by decide) (he : starEach [e] X.env = [(false, eval e X.env)] := by rfl) :
    PS X (.Raise (some (.Call (.Name c p) [e] [] pos)) none pos2) (tRse X.K c f E ta) := by
  obtain ⟨fd, F, hb⟩ := g.fn
  exact ps_raise hc tk (pmk_oex (es := []) g.t.oc g.t.ini g.t.fn F hr hb .nil passL hg g.mg ha hdb he)
/-- what is asked behind the argument of such a raise -/
theorem rse_of {K : PySem.W.Frag} {c f : Str} {E : XK} {v : V} {H1 : Hp} (h : ∀ d, H1 d = none → E (.ref (He.ga K c)) (some d) (upd H1 d (.xd [(f, v)]))) :
    [v].length ≤ 1000 ∧ ∀ a, H1 a = none → spExcI K c f (.ref a :: ([v] ++ [])) (upd H1 a (exo a (He.ga K c) none))
      (fun x H2 => x = .non ∧ ∃ (d : Addr) (fs : List (Str × V)), H2 a = some (exo a (He.ga K c) (some d)) ∧ H2 d = some (exd d fs) ∧ H1 d = none ∧ E (.ref (He.ga K c)) (some d) (upd (del H2 a) d (.xd fs))) (fun _ _ _ => False) := by
  refine ⟨by simp, fun a ha => ⟨a, v, rfl, upd_same, fun dx hd hne => ?_⟩⟩
  rw [upd_ne hne] at hd
  refine ⟨rfl, dx, [(f, v)], upd_same, ?_, hd, ?_⟩
  · rw [upd_ne hne, upd_same]
  · rw [back_one ha hne]
    exact h dx hd
end U
namespace U
open PySem PySem.Spec PyProof.Rows L2

/-! ### a def of the module, wherever it is called from -/
structure GoodO (P : Program) (w : World) (K : PySem.W.Frag) (mg : Str → Option Value) (base : Heap) (k : Nat) (x : Str) (ps : List Str) (sp : Sp) : Prop where
  fn : ∃ fd, FnOk P w K mg base (L2.CX P w) k (He.ga K x) fd ps sp ∧ Binds K fd ps []
  mg : mg x = some (.ref (He.ga K x))
  kp : PySem.W.keepIn K (.ref (He.ga K x)) = true
section
variable {X : Cx} {k : Nat} {x m : Str} {ps : List Str} {sp : Sp} {E : XK} {p pos apos : Pos} {e o : Expr} {es : List Expr} {ta : TE} {t : TA}
theorem tFn_eq (sp : Sp) (E : XK) (t : TA) : tCall sp [] E t = tFn sp E t := by
  unfold tCall tFn
  simp only [List.append_nil]
theorem pe_fo (g : GoodO X.prog X.w X.K X.mg X.base k x ps sp) (hr : Room k X.A) (hg : Gl X x) (hx : Passes (L2.CX X.prog X.w) X E)
    (hpl : (backTo pos (starEach es X.env)).any (·.1) = false := by rfl) (he : starEach (e :: es) X.env = (false, eval e X.env) :: starEach es X.env := by rfl) (ha : PA X (e :: es) t)
    (hdb : (x == ("__debug__" : Str)) = false := by decide) :
    PE X (.Call (.Name x p) (e :: es) [] pos) (tFn sp E t) := by
  obtain ⟨fd, F, hb⟩ := g.fn
  exact tFn_eq sp E t ▸ pe_call F hr hg g.mg g.kp hb .nil hx ha hdb he hpl
end
/-! ### promises by the number of arguments -/
def sp1 (f : V → Hp → VK → XK → Prop) : Sp := fun vs H Q E => match vs with
  | [x] => f x H Q E
  | _ => False
def sp2 (f : V → V → Hp → VK → XK → Prop) : Sp := fun vs H Q E => match vs with
  | [x, y] => f x y H Q E
  | _ => False
def sp3 (f : V → V → V → Hp → VK → XK → Prop) : Sp := fun vs H Q E => match vs with
  | [x, y, z] => f x y z H Q E
  | _ => False
def sp4 (f : V → V → V → V → Hp → VK → XK → Prop) : Sp := fun vs H Q E => match vs with
  | [x, y, z, u] => f x y z u H Q E
  | _ => False
theorem sp1_len {f : V → Hp → VK → XK → Prop} {a : Str} : ∀ vs H Q E, sp1 f vs H Q E → vs.length = ([a] : List Str).length := fun vs H Q E h => match vs, h with
  | [_], _ => rfl
theorem sp2_len {f : V → V → Hp → VK → XK → Prop} {a b : Str} : ∀ vs H Q E, sp2 f vs H Q E → vs.length = ([a, b] : List Str).length := fun vs H Q E h => match vs, h with
  | [_, _], _ => rfl
theorem sp3_len {f : V → V → V → Hp → VK → XK → Prop} {a b c : Str} : ∀ vs H Q E, sp3 f vs H Q E → vs.length = ([a, b, c] : List Str).length := fun vs H Q E h => match vs, h with
  | [_, _, _], _ => rfl
theorem sp4_len {f : V → V → V → V → Hp → VK → XK → Prop} {a b c d : Str} : ∀ vs H Q E, sp4 f vs H Q E → vs.length = ([a, b, c, d] : List Str).length := fun vs H Q E h => match vs, h with
  | [_, _, _, _], _ => rfl
/-! ### kinds of values -/
inductive Ty where
  | non | bl | int | str | lst | tup | dct | yard
  deriving DecidableEq
def Ty.v (K : PySem.W.Frag) : Ty → Value
  | .non => .type "NoneType"
  | .bl => .type "bool"
  | .int => .type "int"
  | .str => .type "str"
  | .lst => .type "list"
  | .tup => .type "tuple"
  | .dct => .type "dict"
  | .yard => .ref (He.ga K "Yard")
def Ty.all : List Ty := [.non, .bl, .int, .str, .lst, .tup, .dct, .yard]
theorem Ty.mem_all (a : Ty) : a ∈ Ty.all := by cases a <;> decide
def Ty.sub (a b : Ty) : Bool := decide (a = b) || (decide (a = .bl) && decide (b = .int))
/-- a value of a kind -/
def Is (K : PySem.W.Frag) (H : Hp) (x : V) (a : Ty) : Prop := TyX K H x (a.v K)
/-- a tuple of the module without a dict -/
def tupO (K : PySem.W.Frag) (x : Str) : Bool := match K.lookup (He.ga K x) with
  | some o => decide (o.cls = .type "tuple") && o.dict.isNone
  | none => false
theorem tupO_ok {K : PySem.W.Frag} {x : Str} (h : tupO K x = true) (H : Hp) : tyV K "tuple" (.ref (He.ga K x)) H := by
  unfold tupO at h
  split at h
  · rename_i o ho
    simp only [Bool.and_eq_true, decide_eq_true_eq, Option.isNone_iff_eq_none] at h
    exact .inr (.inl ⟨rfl, o, ho, h.1, h.2⟩)
  · cases h
/-- what the head tells, whatever the law -/
def kfB (K : PySem.W.Frag) : Bool := (Ty.all.all fun a => Ty.all.all fun b => decide (PySem.W.kitOne K (a.v K) (b.v K) = some (a.sub b))) &&
  (He.tupB K "PLACES" [.str "a", .str "b", .str "c"] && (He.tupB K "WAYS" [.str "ab", .str "ac", .str "ba", .str "bc", .str "ca", .str "cb"] &&
  ((He.Fa.cls "Yard").ok K && ((He.Fa.noat "Yard" "_rows").ok K && (He.eqO (PySem.W.findIn K (.ref (He.ga K "Yard")) "__class__") (some (some (.builtin "object.__class__"))) &&
  (He.eqO (PySem.W.specialIn K (.builtin "object.__class__") "__get__") (some (some (.builtin "getset_descriptor.__get__"))) && (decide (PySem.W.takesIn K (.builtin "object.__class__") = some true) && (decide (PySem.W.mroIn K (He.ga K "Yard") (.type "object") = some true) && (tupO K "PLACES" && (tupO K "WAYS" && ((He.Fa.noat "Yard" "_reckoning").ok K && (Ty.all.all fun a => PySem.W.notFirst K (He.ga K "Yard") (a.v K)))))))))))))
structure KF (K : PySem.W.Frag) : Prop where
  kit : ∀ a b : Ty, PySem.W.kitOne K (a.v K) (b.v K) = some (a.sub b)
  places : ∀ H, SqT K H (He.ga K "PLACES") [.str "a", .str "b", .str "c"]
  ways : ∀ H, SqT K H (He.ga K "WAYS") [.str "ab", .str "ac", .str "ba", .str "bc", .str "ca", .str "cb"]
  cl : Cls K (He.ga K "Yard")
  na : NoAttr K (He.ga K "Yard") "_rows"
  c1 : PySem.W.findIn K (.ref (He.ga K "Yard")) "__class__" = some (some (.builtin "object.__class__"))
  c2 : PySem.W.specialIn K (.builtin "object.__class__") "__get__" = some (some (.builtin "getset_descriptor.__get__"))
  c3 : PySem.W.takesIn K (.builtin "object.__class__") = some true
  c4 : PySem.W.mroIn K (He.ga K "Yard") (.type "object") = some true
  pO : ∀ H, tyV K "tuple" (.ref (He.ga K "PLACES")) H
  wO : ∀ H, tyV K "tuple" (.ref (He.ga K "WAYS")) H
  na2 : NoAttr K (He.ga K "Yard") "_reckoning"
  nf : ∀ a : Ty, PySem.W.notFirst K (He.ga K "Yard") (a.v K) = true
theorem kfB_ok {K : PySem.W.Frag} (h : kfB K = true) : KF K := by
  unfold kfB at h
  simp only [decide_eq_true_eq, Bool.and_eq_true] at h
  obtain ⟨h1, h2, h3, h4, h5, h6, h7, h8, h9, h10, h11, h12, h13⟩ := h
  refine ⟨fun a b => ?_, fun H => He.tupB_ok h2 H, fun H => He.tupB_ok h3 H, He.cls_ok h4, He.noat_ok h5, He.eqO_ok h6, He.eqO_ok h7, h8, h9, fun H => tupO_ok h10 H, fun H => tupO_ok h11 H, He.noat_ok h12, fun a => List.all_eq_true.mp h13 a a.mem_all⟩
  have := List.all_eq_true.mp (List.all_eq_true.mp h1 a a.mem_all) b b.mem_all
  exact of_decide_eq_true this
section
variable {K : PySem.W.Frag} {H : Hp} {x : V}
theorem is_non : Is K H .non .non := .base .non
theorem is_bl (b : Bool) : Is K H (.bl b) .bl := .base (.bl b)
theorem is_int (i : Int) : Is K H (.int i) .int := .base (.int i)
theorem is_str (z : Str) : Is K H (.str z) .str := .base (.str z)
theorem is_lst {p : Addr} {xs : List V} (h : H p = some (.lst xs)) : Is K H (.ref p) .lst := .base (.lst h)
theorem is_tup {p : Addr} {xs : List V} (h : H p = some (.tup xs)) : Is K H (.ref p) .tup := .base (.tup h)
theorem is_dct {p : Addr} {xs : List (Key × V)} (h : H p = some (.dK xs)) : Is K H (.ref p) .dct := .base (.dK h)
theorem is_sqL {p : Addr} {xs : List V} (h : SqL K H p xs) : Is K H (.ref p) .lst := by
  rcases h with (h | ⟨o, h⟩) | ⟨o, its, n, h, hc, _⟩
  · exact .base (.lst h)
  · exact .base (.frz h)
  · exact .kList h hc
theorem is_sqT {p : Addr} {xs : List V} (h : SqT K H p xs) : Is K H (.ref p) .tup := by
  rcases h with (h | ⟨o, h⟩) | ⟨o, its, n, h, hc, _⟩
  · exact .base (.tup h)
  · exact .fTuple h
  · exact .kTuple h hc
theorem is_yard (F : KF K) {p dx : Addr} {fs : List (Str × V)} (h : H p = some (.ins (He.ga K "Yard") dx fs)) : Is K H (.ref p) .yard := .base (.ins h F.cl F.c1 F.c2 F.c3 F.c4)
/-- only texts are texts, only integers are integers, and so on -/
theorem Is.str_inv (h : Is K H x .str) : ∃ z, x = .str z := by
  have key : ∀ t, TyX K H x t → t = .type "str" → ∃ z, x = .str z := by
    intro t h e
    cases h with
    | base b => cases b <;> first | exact ⟨_, rfl⟩ | (injection e with e; exact absurd e (by decide)) | cases e
    | _ => injection e with e; exact absurd e (by decide)
  exact key _ h rfl
theorem Is.int_inv (h : Is K H x .int) : ∃ z, x = .int z := by
  have key : ∀ t, TyX K H x t → t = .type "int" → ∃ z, x = .int z := by
    intro t h e
    cases h with
    | base b => cases b <;> first | exact ⟨_, rfl⟩ | (injection e with e; exact absurd e (by decide)) | cases e
    | _ => injection e with e; exact absurd e (by decide)
  exact key _ h rfl
theorem Is.bl_inv (h : Is K H x .bl) : ∃ z, x = .bl z := by
  have key : ∀ t, TyX K H x t → t = .type "bool" → ∃ z, x = .bl z := by
    intro t h e
    cases h with
    | base b => cases b <;> first | exact ⟨_, rfl⟩ | (injection e with e; exact absurd e (by decide)) | cases e
    | _ => injection e with e; exact absurd e (by decide)
  exact key _ h rfl
end
/-! ### heaps that keep what they have -/
theorem same_new {H : Hp} {p : Addr} {o : HO} (h : H p = none) : Same H (upd H p o) := fun b u e => by
  rw [upd_ne (ne_of_none e h)]
  exact e
theorem Same.sqT {K : PySem.W.Frag} {H H' : Hp} {a : Addr} {xs : List V} (e : Same H H') (h : SqT K H a xs) : SqT K H' a xs :=
  h.imp (Or.imp (e _ _) fun ⟨o, z⟩ => ⟨o, e _ _ z⟩) id
end U
namespace U
open PySem PySem.Spec PyProof.Rows L2

/-! ### the module's table of thirds -/
def thirds : List (Str × Str) := [("ab", "c"), ("ac", "b"), ("ba", "c"), ("bc", "a"), ("ca", "b"), ("cb", "a")]
def ThK (K : PySem.W.Frag) (w : World) : Prop := ∀ q ∈ thirds, KDct K w (He.ga K "THIRDS") q.1 (.str q.2)
def rThird (K : PySem.W.Frag) : R2 := fun x y H Q => ∃ z v, x = .ref (He.ga K "THIRDS") ∧ y = .str z ∧ (z, v) ∈ thirds ∧ Q (.str v) H
theorem ix_third {X : Cx} (h : ThK X.K X.w) : IxR X (rThird X.K) := by
  intro ea eb pins s σ H x y u v Q I rx ry q
  obtain ⟨z, t, rfl, rfl, hm, q⟩ := q
  exact ix_kdict ea eb pins s σ H _ _ u v Q I rx ry ⟨_, z, _, rfl, rfl, h _ hm, q⟩
def thB (K : PySem.W.Frag) : Bool := He.valsB K (He.ga K "THIRDS") (thirds.map fun q => (q.1, He.Dv.str q.2))
theorem thK_of {K : PySem.W.Frag} {w : World} (hd : ∃ es n, KDict K w (He.ga K "THIRDS") es n) (hv : thB K = true) : ThK K w := by
  obtain ⟨es, n, h1, h2, h3⟩ := hd
  intro q hq
  obtain ⟨u, e, r⟩ := He.valsB_ok hv (List.mem_map.mpr ⟨q, hq, rfl⟩)
  exact ⟨es, n, u, h1, h2, e, r⟩
end U
namespace U
open PySem PySem.Spec PyProof.Rows L2

/-! ### the module's table of columns -/
def columns : List (Str × Int) := [("ab", 0), ("ac", 1), ("ba", 2), ("bc", 3), ("ca", 4), ("cb", 5)]
/-! ### text.strip(signs), text.rfind(sign) -/
def rStrip : V → List V → Hp → VK → Prop := fun x xs H Q => ∃ a b, x = .str a ∧ xs = [.str b] ∧ a.length ≤ sizeLine ∧ Q (.str (Txt.stripChars a b)) H
theorem mt_stripU {X : Cx} : MtR X "str.strip" rStrip := mt_stripChars
theorem tw_mem {g : Nat → Bool} {l : List Nat} {x : Nat} (h : x ∈ l.takeWhile g) : g x = true := by
  induction l with
  | nil => cases h
  | cons a r ih =>
    rw [List.takeWhile_cons] at h
    split at h
    · rename_i e
      rcases List.mem_cons.mp h with rfl | hr
      · exact e
      · exact ih hr
    · cases h
theorem dw_nil {g : Nat → Bool} {l : List Nat} (h : ∀ x ∈ l, g x = true) : l.dropWhile g = [] := by
  induction l with
  | nil => rfl
  | cons a r ih =>
    rw [List.dropWhile_cons, if_pos (h a List.mem_cons_self)]
    exact ih fun x m => h x (List.mem_cons_of_mem _ m)
theorem strip_nil (a b : Str) : Txt.stripChars a b = "" ↔ ∀ c ∈ a.cps.toList, b.cps.contains c = true := by
  unfold Txt.stripChars
  rw [PySem.W.stripBy_eq]
  show Builtin.Str.strSub a (stripLo b.cps.contains true a) (stripHi b.cps.contains true a (stripLo b.cps.contains true a)) = "" ↔ _
  have el : stripLo b.cps.contains true a = (a.cps.toList.takeWhile b.cps.contains).length := rfl
  have eh : stripHi b.cps.contains true a (stripLo b.cps.contains true a) = a.length - ((a.cps.toList.drop (stripLo b.cps.contains true a)).reverse.takeWhile b.cps.contains).length := rfl
  have en : a.length = a.cps.toList.length := by show a.cps.size = _; simp
  rw [eh, el, en, strSub_mk]
  generalize a.cps.toList = L
  generalize b.cps.contains = g
  have e0 : ∀ l : List Nat, (⟨l.toArray⟩ : Str) = "" ↔ l = [] := fun l => by
    constructor
    · intro h
      have h2 : l.toArray = (#[] : Array Nat) := congrArg Str.cps h
      exact congrArg Array.toList h2
    · rintro rfl
      rfl
  rw [e0]
  have hd : L = L.takeWhile g ++ L.dropWhile g := (List.takeWhile_append_dropWhile).symm
  have e1 : L.drop (L.takeWhile g).length = L.dropWhile g := by
    conv => lhs; rw [hd]
    rw [List.drop_append_of_le_length (by simp), List.drop_of_length_le (by simp), List.nil_append]
  have hl : L.length = (L.takeWhile g).length + (L.dropWhile g).length := by
    conv => lhs; rw [hd]
    exact List.length_append
  rw [e1]
  constructor
  · intro h
    cases hD : L.dropWhile g with
    | nil =>
      rw [hD, List.append_nil] at hd
      intro c hc
      rw [hd] at hc
      exact tw_mem hc
    | cons d r =>
      exfalso
      have hgd : g d = false := by
        have := List.head?_dropWhile_not g L
        rw [hD] at this
        simpa using this
      have hlt : ((d :: r).reverse.takeWhile g).length ≤ r.length := by
        rw [List.reverse_cons]
        have hle := (List.takeWhile_prefix (p := g) (l := r.reverse ++ [d])).length_le
        rcases Nat.lt_or_ge ((r.reverse ++ [d]).takeWhile g).length (r.length + 1) with q | q
        · omega
        · have pe := (List.takeWhile_prefix (p := g) (l := r.reverse ++ [d])).eq_of_length (by simp at hle ⊢; omega)
          have hm : d ∈ (r.reverse ++ [d]).takeWhile g := by rw [pe]; simp
          rw [tw_mem hm] at hgd
          cases hgd
      rw [hD] at h hl
      rw [List.take_eq_nil_iff] at h
      rcases h with h | h
      · rw [List.length_cons] at hl
        omega
      · cases h
  · intro h
    have : L.dropWhile g = [] := dw_nil h
    rw [this]
    simp
end U
namespace U
open PySem PySem.Spec PyProof.Rows L2

/-! ### xs[k] += n -/
/-! ### zip(list, tuple) -/
/-- the five cells of such a zip, and the two that it reads -/
structure ZCells (z TI TO i1 i2 a b : Addr) : Prop where
  n1 : TI ≠ z
  n2 : TO ≠ z
  n3 : TI ≠ TO
  n4 : TI ≠ i1
  n5 : TI ≠ i2
  n6 : z ≠ i1
  n7 : z ≠ i2
  n8 : TO ≠ i1
  n9 : TO ≠ i2
  n10 : i1 ≠ i2
  a1 : a ≠ z
  a2 : a ≠ TO
  a3 : a ≠ i1
  a4 : a ≠ i2
  b1 : b ≠ z
  b2 : b ≠ TO
  b3 : b ≠ i1
  b4 : b ≠ i2
theorem ZCells.sep {z TI TO i1 i2 a b : Addr} (c : ZCells z TI TO i1 i2 a b) : ZipSep2 z TI TO i1 i2 [i1, a] [i2, b] where
  TIz := c.n1
  TOz := c.n2
  TITO := c.n3
  TIi1 := c.n4
  mem1 := List.mem_cons_self
  zf1 := by simp [c.n6, c.a1.symm]
  Tf1 := by simp [c.n8, c.a2.symm]
  TIi2 := c.n5
  mem2 := List.mem_cons_self
  zf2 := by simp [c.n7, c.b1.symm]
  Tf2 := by simp [c.n9, c.b2.symm]
  sep1_2 := by simp [c.n10, c.b3.symm]
  sep2_1 := by simp [c.n10.symm, c.a4.symm]
theorem five {z TI TO i1 i2 q : Addr} (h : q ∈ [z, TI, TO, i1, i2]) : q = z ∨ (q = TI ∨ (q = TO ∨ (q = i1 ∨ q = i2))) := by simpa using h
/-- what yields pairs -/
structure Zipped (J : It) (xs ys : List V) (G : Hp → Prop) : Prop where
  go : ∀ i H, G H → i < xs.length → i < ys.length → J.go i H
  yld : ∀ i H v H', G H → J.yld i H v H' → ∃ T x y, v = .ref T ∧ H T = none ∧ H' = upd H T (.tup [x, y]) ∧ xs[i]? = some x ∧ ys[i]? = some y
  stop : ∀ i H, G H → i ≤ xs.length → i ≤ ys.length → (i = xs.length ∨ i = ys.length) → J.stop i H
/-- a comprehension over such pairs -/
theorem lc_zip {J : It} {xs ys : List V} {G : Hp → Prop} (Z : Zipped J xs ys G) {g : TG} {tt : TT} {te : TE} {vs : List Nat} {σ : L2.St} {H1 : Hp} {D : Addr} {Qd : Hp → Prop} (Pv : Nat → Hp → Prop) (h0 : Pv 0 (upd H1 D (.lst []))) (hG : ∀ i H, Pv i H → G H)
    (hs : ∀ i x y T H, xs[i]? = some x → ys[i]? = some y → Pv i H → H T = none → lcT g tt te vs σ D (Pv (i + 1)) (.ref T) (upd H T (.tup [x, y]))) (hd : ∀ H, Pv (min xs.length ys.length) H → Qd H) : LcB J g tt te vs σ H1 D Qd := by
  refine ⟨fun i m H => m = min xs.length ys.length - i ∧ i ≤ min xs.length ys.length ∧ Pv i H, ⟨_, rfl, Nat.zero_le _, h0⟩, ?_⟩
  rintro i m H ⟨rfl, hi, p⟩
  by_cases lt : i < min xs.length ys.length
  · refine .inr ⟨Z.go i H (hG i H p) (by omega) (by omega), Pv (i + 1), fun H' p' => ⟨min xs.length ys.length - (i + 1), by omega, rfl, lt, p'⟩, fun v H' yd => ?_⟩
    obtain ⟨T, x, y, rfl, hT, rfl, e1, e2⟩ := Z.yld i H v H' (hG i H p) yd
    exact hs i x y T H e1 e2 p hT
  · have e : i = min xs.length ys.length := by omega
    subst e
    exact .inl ⟨Z.stop _ H (hG _ H p) (by omega) (by omega) (by omega), hd H p⟩
end U
namespace U
open PySem PySem.Spec PyProof.Rows L2

/-! ### y = {k: v for ..} -/
section
variable {X : Cx}
theorem sw_dict {kx vx : Expr} {gs : List Comprehension} {scope : Scope} {pos py : Pos} {y : Str} {l : Nat} {env : Env} (h1 : env.scope.kind = .function) (h2 : env.scope.names.lookup y = some .local) (h3 : (py.line == pos.line) = true)
    (h4 : (scope.names.any fun (n, k) => n == y && (k == .local || k == .cell)) = false) : swapsWith (.DictComp kx vx gs scope pos) (some (.Name y py)) l env = pure true := by
  have e1 : env.kindOf y = some .local := h2
  have e2 : env.blockKind = .function := by
    unfold Env.blockKind
    rw [h1]
    rfl
  unfold swapsWith
  simp only [e1, e2, h4, Expr.pos, h3]
  rfl
theorem ps_setDc {i : Nat} {y : Str} {py : Pos} {kx vx tg iter : Expr} {ifs : List Expr} {scope : Scope} {own : List (Str × Nat)} {pos spos : Pos} {wi : TI} {g : TG} {tt : TT} {tk tv : TE} (hc : X.calm = true) (hN : X.N.Nodup) (hy : X.N[i]? = some y) (hyl : X.env.scope.names.lookup y = some .local)
    (hsw : swapsWith (.DictComp kx vx [⟨tg, iter, ifs, 0⟩] scope pos) (some (.Name y py)) spos.line X.env = pure true) (hi : PI X tg iter wi) (ok : BlkOk X.N X.env.scope scope own)
    (hg : ∀ s H C cl fp, PG (X.blk s H scope (compEnvC scope cl C X.env) fp) tg g) (ht : ∀ s H C cl fp, PTs (X.blk s H scope (compEnvC scope cl C X.env) fp) ifs tt)
    (hk : ∀ s H C cl fp, PE (X.blk s H scope (compEnvC scope cl C X.env) fp) kx tk) (he : ∀ s H C cl fp, PE (X.blk s H scope (compEnvC scope cl C X.env) fp) vx tv) (hs : ∀ x, foldedSetIterable iter X.env x = pure x := by intro _; rfl) :
    PS X (.Assign [.Name y py] (.DictComp kx vx [⟨tg, iter, ifs, 0⟩] scope pos) spos) (tAsg (tDc wi g tt tk tv (own.map (·.2))) (gName i)) := by
  refine .mk ?_
  intro pins s σ H D I h
  rw [exec_Assign_Name_used (hs := hsw)]
  apply wpAny_bind
  refine wpAny_standAt (wpAny_bind ?_)
  show wpAny _ X.A (do let _ ← comprehension (.DictComp kx vx [⟨tg, iter, ifs, 0⟩] scope pos) scope X.env (firstIterPos [⟨tg, iter, ifs, 0⟩] pos) newDict false (eval iter X.env) (some (assign (.Name y py) X.env))) _ _ s
  have h : tDc wi g tt tk tv (own.map (·.2)) σ H (fun x H1 => gName i x σ H1 D.nx) := h
  refine wpAny_bind (thn (dc_core (Qf := fun _ s' => SP X pins D .next s') hc hN I hi ok hg ht hk he hs h fun L C s' m H' I' q hn f => ?_) fun _ s' hq => wpAny_pure (wpAny_pure hq))
  show wpAny (model X.prog X.w) _ (assign (.Name y py) X.env (.ref L)) _ _ _
  refine wpAny_assign_Name (store_ok2 (v := V.ref L) I' hN hy (.inl hyl) rfl (fun s2 I2 out => ?_) (.inr hyl))
  obtain ⟨a, sb, ha⟩ := out
  obtain ⟨f0, f1, g2, g3, f4, f5⟩ := f
  have na : C ≠ a := by
    rcases ha with z | z
    · rw [z]
      exact f1
    · intro e
      exact f4 y a z e.symm
  refine ⟨m, hn.sameBut sb na, fun h3 sb3 => ⟨_, H', ?_, q⟩⟩
  exact I2.turned (t' := s2.toks) (fun b o hb e => (sb3.2 b hb).trans e) f0 f1 g3 f4 f5
end
end U
namespace U
open PySem PySem.Spec PyProof.Rows L2

/-! ### sorted(d.values()), fewer than 64 integers -/
end U
namespace U
open PySem PySem.Spec PyProof.Rows L2

/-! ### len(set(text)) -/
section
variable {P : Program} {w : World} {A : Around} {E : Value → Shared → Prop} {z : Str}
local macro_rules | `(tactic| walk_at "g") => `(tactic| repeat (any_goals (first | assumption | wp_step)))
end
section
variable {X : Cx} {p p2 q pos : Pos} {a : Expr} {ta : TE}
end
end U
namespace U
open PySem PySem.Spec PyProof.Rows L2

/-! ### len(set(texts)), no text twice -/
section
variable {P : Program} {w : World} {A : Around} {E : Value → Shared → Prop} {xs : List Str} {items : Array Value}
local macro_rules | `(tactic| walk_at "g") => `(tactic| repeat (any_goals (first | assumption | wp_step)))
end
section
variable {X : Cx} {p p2 q pos : Pos} {a : Expr} {ta : TE}
end
end U
namespace U
open PySem PySem.Spec PyProof.Rows L2

/-! ### except (A, B, ..): which exceptions such a clause takes -/
section
variable {M : Model} {A : Around} {s : Shared} {E : Value → Shared → Prop}
end
end U
namespace U
open PySem PySem.Spec PyProof.Rows L2

/-! ### try: several clauses, each with or without a name, of one class or of several -/
theorem flying_keep {B h h' : Heap} {l : List Env} {a : Addr} {Z : Obj → Prop} (k : ∀ b o, h.get? b = some o → h'.get? b = some o) (x : HandSPX.FlyingZ B l a Z h) : HandSPX.FlyingZ B l a Z h' := by
  obtain ⟨x1, x2, x3, oe, vs, T, oT, ts, y1, y2, y3, y4, y5, y6, y7, y8⟩ := x
  exact ⟨fun b o e => k _ _ (x1 b o e), x2, x3.of_keeps fun b o e _ => ⟨o, k _ _ e, rfl⟩, oe, vs, T, oT, ts, k _ _ y1, y2, y3, y4, y5, y6, k _ _ y7, y8⟩
/-- the expression of a clause: which classes it takes -/
def TeX (X : Cx) (e : Expr) (m : Value → Option Bool) : Prop := ∀ {a : Addr} {oe : Obj} {cls : Value} {b : Bool} {pn pins : List (Addr × Obj)} {σ : L2.St} {H : Hp} {s : Shared} {Q : Bool → Shared → Prop} {E : Value → Shared → Prop},
  Inv (X.suite a ((a, oe) :: pn)) pins σ H s → s.heap.get? a = some oe → oe.cls = cls → m cls = some b → (∀ h', (∀ c o, s.heap.get? c = some o → h'.get? c = some o) → Q b { s with heap := h' }) →
  wpAny (model X.prog X.w) (X.A.mark (some (.ref a))) (eval e X.env) (fun c s1 => wpAny (model X.prog X.w) (X.A.mark (some (.ref a))) (excMatches (.ref a) c) Q E s1) E s
section
variable {X : Cx}
theorem look_name {a : Addr} {pn pins : List (Addr × Obj)} {σ : L2.St} {H : Hp} {s : Shared} {x : Str} {c : Value} {np : Pos} (hc : Names X x c) (S : Inv (X.suite a pn) pins σ H s) {Q : Value → Shared → Prop} {E : Value → Shared → Prop} (q : Q c s) :
    wpAny (model X.prog X.w) (X.A.mark (some (.ref a))) (eval (.Name x np) X.env) Q E s := by
  obtain ⟨g, nd, m | ⟨m, v, nn⟩⟩ := hc
  · exact ld_glob S g m q nd
  · exact ld_blt S g m v q nn nd
theorem type_looks {M : Model} {h : Heap} {a : Addr} {oe : Obj} (he : h.get? a = some oe) : PySem.W.Looks M h (typeOf (.ref a)) oe.cls := fun A Q E s k q => wpAny_typeOf_ref (k _ _ he) q
theorem te_name {x : Str} {c : Value} {np : Pos} (hc : Names X x c) : TeX X (.Name x np) fun cls => PySem.W.exmOne X.K cls c := by
  intro a oe cls b pn pins σ H s Q E S he ec hm q
  subst ec
  exact look_name hc S ((PySem.W.exm_one S.kIn (type_looks he) hm).here (q s.heap fun _ _ z => z))
end
/-- a clause: what it takes, its name's slot, its suite -/
structure Clz where
  m : Value → Option Bool
  nm : Option Nat
  ts : Addr → Value → Option Addr → TS
def named (i : Option Nat) (a : Addr) (σ : L2.St) : L2.St := match i with
  | none => σ
  | some i => σ.set i (some (.ref a))
def unnamed (i : Option Nat) (σ : L2.St) : L2.St := match i with
  | none => σ
  | some i => σ.set i none
def undone (i : Option Nat) (D : Ends) : Ends := { nx := fun σ H => D.nx (unnamed i σ) H, rt := D.rt, bk := fun σ H => D.bk (unnamed i σ) H, ct := fun σ H => D.ct (unnamed i σ) H }
/-- what is asked of an exception by the clauses in turn -/
def wCl (Wout : WX) (D : Ends) : List Clz → WX
  | [] => Wout
  | c :: r => fun cls d σ H => ∃ b, c.m cls = some b ∧ (b = true → ∀ a, H a = none → c.ts a cls d (undone c.nm D) (named c.nm a σ) H) ∧ (b = false → wCl Wout D r cls d σ H)
def NmOk (X : Cx) : Option Str → Option Nat → Prop
  | none, none => True
  | some n, some i => X.N[i]? = some n ∧ X.env.kindOf n = some .local
  | _, _ => False
inductive ClsOk (X : Cx) : List ExceptHandler → List Clz → Prop
  | nil : ClsOk X [] []
  | cons {e : Expr} {m : Value → Option Bool} {name : Option Str} {nm : Option Nat} {ts : Addr → Value → Option Addr → TS} {b0 : Stmt} {suite : List Stmt} {pos' : Pos} {hds : List ExceptHandler} {l : List Clz} (te : TeX X e m) (hn : NmOk X name nm)
      (su : ∀ (a : Addr) (oe : Obj) (cls : Value) (d : Option Addr) (pn : List (Addr × Obj)), Zc cls d oe → (∃ vs, oe.data = .fields vs) → PSs (X.suite a ((a, oe) :: pn)) (b0 :: suite) (ts a cls d)) (r : ClsOk X hds l) :
      ClsOk X (.ExceptHandler (some e) name (b0 :: suite) pos' :: hds) (⟨m, nm, ts⟩ :: l)
section
variable {X : Cx} {body : List Stmt} {h0 : ExceptHandler} {hds : List ExceptHandler} {l : List Clz} {pos : Pos} {tb : WX → TS} {Wout : WX}
/-- the state behind a suite, seen from around it -/
theorem sp_back {pins : List (Addr × Obj)} {a : Addr} {q : Addr × Obj} {D D' : Ends} {f : Flow} {s : Shared} (ok : X.Ok) (h : SP (X.suite a (q :: (X.pn ++ pins))) [] D' f s)
    (e : ∀ σ H s', Inv X pins σ H s' → s' = s → (D'.nx σ H → D.nx σ H) ∧ (D'.bk σ H → D.bk σ H) ∧ (D'.ct σ H → D.ct σ H)) (er : D'.rt = D.rt) : SP X pins D f s := by
  cases f with
  | next =>
    obtain ⟨σ', H', S, z⟩ := h
    exact ⟨σ', H', S.unsuite ok, (e σ' H' s (S.unsuite ok) rfl).1 z⟩
  | brk =>
    obtain ⟨σ', H', S, z⟩ := h
    exact ⟨σ', H', S.unsuite ok, (e σ' H' s (S.unsuite ok) rfl).2.1 z⟩
  | cont =>
    obtain ⟨σ', H', S, z⟩ := h
    exact ⟨σ', H', S.unsuite ok, (e σ' H' s (S.unsuite ok) rfl).2.2 z⟩
  | ret u =>
    obtain ⟨v, σ', H', S, r, z⟩ := h
    exact ⟨v, σ', H', S.unsuite ok, r, er ▸ z⟩
theorem ps_try_cl (hs : X.stack = X.env :: X.outer) (hf : X.env.frame = some X.env.locals) (hN : X.N.Nodup) (tk : Takes X Wout)
    (hb : ∀ (W : WX) (pn : List (Addr × Obj)) (xe : Value → Shared → Prop), Takes (X.tr pn xe) W → PassesOwn (model X.prog X.w) X.A X.env xe → PSs (X.tr pn xe) body (tb W))
    (hh : ClsOk X (h0 :: hds) l) : PS X (.Try body (h0 :: hds) [] [] pos) (fun D σ H => tb (wCl Wout D l) D σ H) := by
  refine .mk ?_
  intro pins s σ H D I h
  have ok := I.ok
  have frames : X.A.frames = some (X.env :: X.outer) := by rw [ok.frames, hs]
  refine wpAny_Try_except (wpAny_mono ((hb (wCl Wout D l) (X.pn ++ pins) (fun e s1 => wpAny (model X.prog X.w) X.A (noteFrame e X.env) (fun _ s2 => wpAny (model X.prog X.w) X.A (setFlight e none) (fun _ s3 =>
    wpAny (model X.prog X.w) X.A (handleBy e X.env (h0 :: hds)) (SP X pins D) X.xe s3) X.xe s2) X.xe s1) (fun u s' thrown => ?_) PassesOwn.looking).run [] s σ H D (I.toTry _) h) (fun f s1 out => ?_) fun e s1 z => z)
  · obtain ⟨a, B, sI, pins', σ', H', cls, d, rfl, J0, nb, up, sky0, na, os, ag, wish⟩ := thrown
    have J : Inv X pins σ' H' sI := J0.ofTry ok
    have sky : Sky B (X.env :: X.outer) a (Zc cls d) X.env.locals s'.heap := hs ▸ sky0
    change wpAny (model X.prog X.w) X.A (noteFrame (.ref a) X.env) _ _ _
    refine sky.land Zc.steady frames hf fun h3 fl3 up3 => ?_
    -- the clauses, from any heap in which it flies
    have go : ∀ {hds' : List ExceptHandler} {l' : List Clz}, ClsOk X hds' l' → wCl Wout D l' cls d σ' H' → ∀ hx, HandSPX.FlyingZ B (X.env :: X.outer) a (Zc cls d) hx → s'.heap.UpToSlots hx →
        wpAny (model X.prog X.w) X.A (handleBy (.ref a) X.env hds') (SP X pins D) X.xe { s' with heap := hx } := by
      intro hds' l' hk
      induction hk with
      | nil =>
        intro w hx fl upx
        obtain ⟨_, _, _, oe, vs, T, oT, ts', he, hz, hd, h1, _⟩ := id fl
        refine wpAny_handleBy_nil (by
          unfold PySem.passOn
          refine (wpAny_bind (wpAny_field he hd h1 ?_))
          rw [if_neg (show ¬ ((Value.ref T == Value.none) = true) by simp)]
          have out : wpAny (model X.prog X.w) X.A (setFlight (.ref a) X.env.frame) (fun _ s4 => wpAny (model X.prog X.w) X.A (throw (.ref a) : Sem Flow) (SP X pins D) X.xe s4) X.xe { s' with heap := hx } := by
            rw [hf]
            refine HandSPX.setFlight_upZ fl fun h4 held up4 => wpAny_throw (tk _ _ ⟨a, B, sI, pins, σ', H', cls, d, rfl, J, nb, (up.trans upx).trans up4, .inr (.inr (by rw [hs]; exact held)), na, os, ag, w⟩)
          first
            | exact wpAny_bind (wpAny_pure (wpAny_bind out))
            | exact wpAny_bind out)
      | @cons e m name nm ts b0 suite pos' hds2 l2 te hn su r ih =>
        intro w hx fl upx
        obtain ⟨b, hm, yes, no⟩ := w
        rcases fl.there with ⟨oe, vs, he, hz, hd⟩
        have Jx : Inv X pins σ' H' { s' with heap := hx } := J.landed nb fl.1 (up.trans upx) os ag
        have off : ∀ {hy : Heap} {oy : Obj} {vy : Array Value}, hy.FunFrames B (X.env :: X.outer) → hy.get? a = some oy → oy.data = .fields vy → a ≠ X.env.locals ∧ a ∉ X.fs := fun {hy oy vy} ff ey dy => by
          have nfr : a ∉ frs (X.env :: X.outer) := fun hm => by
            rcases ff.mem hm with ⟨_, o', e', hnf⟩
            rw [ey] at e'
            cases e'
            exact hnf _ dy
          refine ⟨fun z => nfr (List.mem_filterMap.mpr ⟨X.env, List.mem_cons_self, by rw [hf, z]⟩), fun hm => ?_⟩
          obtain ⟨e1, h1, q1⟩ := List.mem_filterMap.mp hm
          exact nfr (List.mem_filterMap.mpr ⟨e1, List.mem_cons_of_mem _ h1, q1⟩)
        obtain ⟨nL, nF⟩ := off fl.2.2.1 he hd
        refine wpAny_handleBy_cons (codeAny_handlers_test (te (Jx.suite he hd na nL nF) he hz.1 hm fun h4 kept => ?_)) (fun z => nomatch z)
        have fl4 := flying_keep kept fl
        have up4 : s'.heap.UpToSlots h4 := upx.trans (Heap.UpToSlots.of_keeps kept)
        cases b with
        | false => exact ih (no rfl) h4 fl4 up4
        | true =>
          have land : ∀ h5, HandSPX.FlyingZ B (X.env :: X.outer) a (Zc cls d) h5 → h4.UpToSlots h5 → ∃ oe5, Zc cls d oe5 ∧ (∃ vs, oe5.data = .fields vs) ∧ Inv (X.suite a ((a, oe5) :: (X.pn ++ pins))) [] σ' H' { s' with heap := h5 } := fun h5 fl5 up5 => by
            obtain ⟨oe5, vs5, he5, hz5, hd5⟩ := fl5.there
            obtain ⟨nL5, nF5⟩ := off fl5.2.2.1 he5 hd5
            have J5 : Inv X pins σ' H' { s' with heap := h5 } := J.landed (s' := { s' with heap := h5 }) nb fl5.1 (up.trans (up4.trans up5)) os ag
            exact ⟨oe5, hz5, ⟨_, hd5⟩, J5.suite he5 hd5 na nL5 nF5⟩
          match name, nm, hn with
          | none, none, _ =>
            refine codeAny_handlers_suite (HandSPX.lands_againZ fl4 fun h5 fl5 up5 => ?_)
            obtain ⟨oe5, hz5, hd5, S5⟩ := land h5 fl5 up5
            exact wpAny_mono ((su a oe5 cls d (X.pn ++ pins) hz5 hd5).run [] _ _ H' _ S5 (yes rfl a na)) (fun f s6 out => sp_back ok out (fun _ _ _ _ _ => ⟨id, id, id⟩) rfl) fun _ _ z => z.elim
          | some n, some i, ⟨hi, hln⟩ =>
            refine codeAny_handlers_suite_as (HandSPX.lands_againZ fl4 fun h5 fl5 up5 => ?_)
            obtain ⟨oe5, hz5, hd5, S5⟩ := land h5 fl5 up5
            refine store_ok (X := X.suite a ((a, oe5) :: (X.pn ++ pins))) (v := .ref a) S5 hN hi (.inl hln) rfl (fun s6 S6 => ?_) (.inr hln)
            refine wpAny_mono ((su a oe5 cls d (X.pn ++ pins) hz5 hd5).run [] s6 _ H' _ S6 (yes rfl a na)) (fun f s7 out => ?_) fun _ _ z => z.elim
            have ends : ∀ {σ7 : L2.St} {H7 : Hp} {Q : Shared → Prop}, Inv (X.suite a ((a, oe5) :: (X.pn ++ pins))) [] σ7 H7 s7 → (∀ s8, Inv X pins (σ7.set i none) H7 s8 → Q s8) →
                wpAny (model X.prog X.w) X.A (do bindName X.env n .none; unbindBehindTheSuite X.env n pos') (fun _ s8 => Q s8) X.xe s7 := fun S7 q => gone_ok (S7.unsuite ok) hN hi hln q
            cases f with
            | next => obtain ⟨σ7, H7, S7, q7⟩ := out; exact ends S7 fun s8 J8 => ⟨_, _, J8, q7⟩
            | brk => obtain ⟨σ7, H7, S7, q7⟩ := out; exact ends S7 fun s8 J8 => ⟨_, _, J8, q7⟩
            | cont => obtain ⟨σ7, H7, S7, q7⟩ := out; exact ends S7 fun s8 J8 => ⟨_, _, J8, q7⟩
            | ret u => obtain ⟨v7, σ7, H7, S7, r7, q7⟩ := out; exact ends S7 fun s8 J8 => ⟨_, _, _, J8, r7, q7⟩
    exact go hh wish h3 fl3 up3
  · cases f with
    | next => obtain ⟨σ', H', J, q⟩ := out; exact wpAny_execs_nil ⟨σ', H', J.ofTry ok, q⟩
    | brk => obtain ⟨σ', H', J, q⟩ := out; exact ⟨σ', H', J.ofTry ok, q⟩
    | cont => obtain ⟨σ', H', J, q⟩ := out; exact ⟨σ', H', J.ofTry ok, q⟩
    | ret u => obtain ⟨v, σ', H', J, r, q⟩ := out; exact ⟨v, σ', H', J.ofTry ok, r, q⟩
end
end U
namespace U
open PySem PySem.Spec PySem.Calls PyProof.Rows L2

/-! ### isinstance and fields of a caught exception of one's own, whatever its dict -/
section
variable {P : Program} {w : World} {A : Around} {E : Value → Shared → Prop} {s : Shared} {K : PySem.W.Frag} {x D : Addr} {ox : Obj} {od : Option Obj}
end
theorem inst_exc {X : Cx} {a C dd : Addr} {oe : Obj} {pn pins : List (Addr × Obj)} {σ : L2.St} {H : Hp} {s : Shared} {fs : List (Str × V)} (hz : Zc (.ref C) (some dd) oe) (hf : ∃ vs, oe.data = .fields vs) (I : Inv (X.suite a ((a, oe) :: pn)) pins σ H s) (hd : H dd = some (.xd fs)) :
    ∃ od, PySem.W.InstAt s.heap a oe C (some od) ∧ ∀ n v, fs.lookup n = some v → ∃ u, PySem.W.lookIn n od = some (some u) ∧ RelV v u := by
  obtain ⟨vs, dat⟩ := hf
  obtain ⟨here, _⟩ := I.pin (a, oe) (List.mem_append.mpr (.inl (List.mem_cons_self)))
  have ok : ObjOk X.prog X.w H s.heap dd (.xd fs) := I.hok dd _ hd
  obtain ⟨mA, ns, rel⟩ := ok
  obtain ⟨od, ho, look⟩ := lookIn_ns ns
  refine ⟨od, ⟨here, hz.1, by unfold PySem.W.notCls; rw [dat] <;> rfl, by rw [hz.2]; exact ho⟩, fun n v e => ?_⟩
  obtain ⟨u, hu, ru⟩ := RelO.some_of (v := v) (o := mA n) (by rw [← e]; exact rel n)
  exact ⟨u, by rw [look, hu], ru⟩
/-- e.f, e the exception of the suite -/
def tXv (K : PySem.W.Frag) (a : Addr) (cls : Value) (d : Option Addr) (f : Str) (te : TE) : TE := fun σ H Q => te σ H fun x H1 => x = .ref a ∧ ∃ (C dd : Addr) (fs : List (Str × V)) (v : V), cls = .ref C ∧ d = some dd ∧ XfC K C ∧ PySem.W.findIn K (.ref C) f = some none ∧ H1 dd = some (.xd fs) ∧ fs.lookup f = some v ∧ Q v H1
theorem pe_xv {X : Cx} {a : Addr} {cls : Value} {d : Option Addr} {oe : Obj} {pn : List (Addr × Obj)} {e : Expr} {te : TE} {pos : Pos} {f : Str} (hz : Zc cls d oe) (hf : ∃ vs, oe.data = .fields vs) (he : PE (X.suite a ((a, oe) :: pn)) e te) (plain : attributeBase e f X.env (eval e X.env) = eval e X.env := by rfl) :
    PE (X.suite a ((a, oe) :: pn)) (.Attribute e f pos) (tXv X.K a cls d f te) := by
  refine .mk ?_
  intro ps s σ H Q I h
  refine attr_of plain (thn (he.run ps s σ H _ I h) fun u s1 out => ?_)
  obtain ⟨x, H1, I1, rx, rfl, C, dd, fs, v, rfl, rfl, T, no, hd, look, q⟩ := out
  obtain rfl : u = Value.ref a := rx
  obtain ⟨od, J, get⟩ := inst_exc hz hf I1 hd
  obtain ⟨u, hu, ru⟩ := get _ _ look
  exact HandSPX.exc_get I1.kIn J T.ga T.gg T.exC (PySem.W.findObj_own T.hdC no rfl hu) (handed_of ru) ⟨v, H1, I1.tok _, ru, q⟩
/-! ### calls in a try's body: what they may raise is told by the state -/
abbrev tFnS (sp : Sp) (W : WX) (t : TA) : TE := tCallS sp (WE W) t
section
variable {X : Cx} {k : Nat} {x C : Str} {ps : List Str} {sp : Sp} {W : WX} {p pos : Pos} {e : Expr} {es : List Expr} {t : TA}
theorem pe_foS (g : GoodO X.prog X.w X.K X.mg X.base k x ps sp) (hr : Room k X.A) (hg : Gl X x) (tk : Takes X W) (hpl : (backTo pos (starEach es X.env)).any (·.1) = false := by rfl) (he : starEach (e :: es) X.env = (false, eval e X.env) :: starEach es X.env := by rfl) (ha : PA X (e :: es) t)
    (hdb : (x == ("__debug__" : Str)) = false := by decide) : PE X (.Call (.Name x p) (e :: es) [] pos) (tFnS sp W t) := by
  obtain ⟨fd, F, hb⟩ := g.fn
  exact pe_callS F hr hg g.mg g.kp hb (passAt tk) ha hdb he hpl
/-- a new object of one's own class, made in a try's body -/
def tMakeS (C : Addr) (sp : Sp) (W : WX) (t : TA) : TE := fun σ H Q => t σ H fun vs H1 => ∀ x dx, H1 x = none → H1 dx = none → dx ≠ x → sp (.ref x :: vs) (upd (upd H1 dx (.own x)) x (.ins C dx [])) (fun v H2 => v = .non ∧ Q (.ref x) H2) (WE W σ)
theorem pe_mkS (g : GoodM X.prog X.w X.K X.mg X.base k C "__init__" ps sp) (M : Mk X.K (He.ga X.K C) (He.ma X.K (He.ga X.K C) "__init__")) (hm : X.mg C = some (.ref (He.ga X.K C))) (hr : Room (k + 1) X.A) (hg : Gl X C) (tk : Takes X W)
    (hpl : (backTo pos (starEach es X.env)).any (·.1) = false := by rfl) (he : starEach (e :: es) X.env = (false, eval e X.env) :: starEach es X.env := by rfl) (ha : PA X (e :: es) t)
    (hdb : (C == ("__debug__" : Str)) = false := by decide) : PE X (.Call (.Name C p) (e :: es) [] pos) (tMakeS (He.ga X.K C) sp W t) := by
  obtain ⟨fd, F, hb⟩ := g.fn
  refine .mk ?_
  intro pins s σ H Q I h
  refine wpAny_Call_Name_kw (ld_glob I hg hm (PySem.W.callWith_K (h₀ := X.base) I.ok.mod.kin M.kp (thn (ha.run pos pins s σ H _ I h) fun us s1 out => ?_) he hpl) hdb)
  obtain ⟨vs, H1, I1, r, q⟩ := out
  refine ⟨I1.kIn, ?_⟩
  have q1 := q (s1.heap.objs.size + 1) s1.heap.objs.size (I1.hok.fresh (Nat.le_succ _)) (I1.hok.fresh (Nat.le_refl _)) (Nat.ne_of_lt (Nat.lt_succ_self _))
  have I2 := Inv.made (C := He.ga X.K C) I1
  have r2 : Vals (V.ref (s1.heap.objs.size + 1) :: vs) (Value.ref (s1.heap.objs.size + 1) :: us) := .cons rfl r
  have hl : (Value.ref (s1.heap.objs.size + 1) :: us).length = ps.length := (r2.length.symm.trans (F.len _ _ _ _ q1))
  have bb := hb { s1 with heap := _ } (Value.ref (s1.heap.objs.size + 1) :: us) I2.kIn (by rw [List.append_nil]; exact hl)
  rw [List.append_nil] at bb
  refine wpAny_call (make_map (f := He.ma X.K (He.ga X.K C) "__init__") I1.kIn M.makes M.init (beq_iff_eq.mp M.fn) (codeAny_mono (F.run _ X.stack _ _ ⟨Value.ref (s1.heap.objs.size + 1) :: us, []⟩ _ _ _ _ (hr.make (He.ga X.K C) us []) (I2.env0.make (He.ga X.K C) us []) bb r2 q1) fun res s' out => ?_))
  match res, out with
  | .error er, out => exact passAt tk σ pins _ _ er s' I2 out
  | .ok (.ret u), out =>
    obtain ⟨v, H', I3, rv, ev, q3⟩ := I2.after out
    subst ev
    exact ⟨rv, ⟨V.ref (s1.heap.objs.size + 1), H', I3, rfl, q3⟩⟩
  | .ok .next, out => exact out.elim
  | .ok .brk, out => exact out.elim
  | .ok .cont, out => exact out.elim
end
/-- a try as a statement -/
def tTry (Wout : WX) (tb : WX → TS) (l : List Clz) : TS := fun D σ H => tb (wCl Wout D l) D σ H
/-! ### what a law never comes to -/
def tNeverS : TS := fun _ _ _ => False
theorem ps_never {X : Cx} {st : Stmt} : PS X st tNeverS := ⟨fun _ _ _ _ _ _ h => h.elim⟩
/-! ### one's own exceptions, all directly under one -/
structure XF (K : PySem.W.Frag) (B : Str) (cs : List Str) : Prop where
  m : ∀ x ∈ cs, ∀ y ∈ B :: cs, PySem.W.exmOne K (.ref (He.ga K x)) (.ref (He.ga K y)) = some (decide (y = B ∨ y = x))
  i : ∀ x ∈ cs, ∀ y ∈ B :: cs, PySem.W.kitOne K (.ref (He.ga K x)) (.ref (He.ga K y)) = some (decide (y = B ∨ y = x))
  c : ∀ x ∈ cs, ExcC K (He.ga K x)
  f : ∀ x ∈ cs, XfC K (He.ga K x)
  v : ∀ x ∈ cs, PySem.W.findIn K (.ref (He.ga K x)) "value" = some none
def excCB (K : PySem.W.Frag) (D : Addr) : Bool := decide (PySem.W.findIn K (.ref D) "__getattribute__" = some (some (.builtin "BaseException.__getattribute__"))) && (decide (PySem.W.findIn K (.ref D) "__getattr__" = some none) && (decide (PySem.W.subIn K (.ref D) (.type "BaseException") = some true) &&
  (PySem.W.hasDictIn K D && (decide (PySem.W.findIn K (.ref D) "__class__" = some (some (.builtin "object.__class__"))) && (decide (PySem.W.specialIn K (.builtin "object.__class__") "__get__" = some (some (.builtin "getset_descriptor.__get__"))) &&
  (decide (PySem.W.takesIn K (.builtin "object.__class__") = some true) && (decide (PySem.W.mroIn K D (.type "object") = some true) && decide (PySem.W.findIn K (.ref D) "value" = some none))))))))
def xFB (B : Str) (cs : List Str) (K : PySem.W.Frag) : Bool := cs.all fun x => excCB K (He.ga K x) && (B :: cs).all fun y => decide (PySem.W.exmOne K (.ref (He.ga K x)) (.ref (He.ga K y)) = some (decide (y = B ∨ y = x))) && decide (PySem.W.kitOne K (.ref (He.ga K x)) (.ref (He.ga K y)) = some (decide (y = B ∨ y = x)))
theorem xF_ok {K : PySem.W.Frag} {B : Str} {cs : List Str} (h : xFB B cs K = true) : XF K B cs := by
  have all : ∀ x ∈ cs, ExcC K (He.ga K x) ∧ PySem.W.findIn K (.ref (He.ga K x)) "value" = some none ∧ ∀ y ∈ B :: cs, PySem.W.exmOne K (.ref (He.ga K x)) (.ref (He.ga K y)) = some (decide (y = B ∨ y = x)) ∧ PySem.W.kitOne K (.ref (He.ga K x)) (.ref (He.ga K y)) = some (decide (y = B ∨ y = x)) := fun x hx => by
    have q := List.all_eq_true.mp h x hx
    rw [Bool.and_eq_true] at q
    obtain ⟨q1, q2⟩ := q
    unfold excCB at q1
    simp only [decide_eq_true_eq, Bool.and_eq_true] at q1
    obtain ⟨a1, a2, a3, a4, a5, a6, a7, a8, a9⟩ := q1
    refine ⟨⟨a1, a2, a3, a4, a5, a6, a7, a8⟩, a9, fun y hy => ?_⟩
    have z := List.all_eq_true.mp q2 y hy
    rw [Bool.and_eq_true] at z
    exact ⟨of_decide_eq_true z.1, of_decide_eq_true z.2⟩
  exact ⟨fun x hx y hy => ((all x hx).2.2 y hy).1, fun x hx y hy => ((all x hx).2.2 y hy).2, fun x hx => (all x hx).1, fun x hx => ⟨(all x hx).1.hg, (all x hx).1.hk, (all x hx).1.hs, (all x hx).1.hd⟩, fun x hx => (all x hx).2.1⟩
end U
namespace U
open PySem PySem.Spec PyProof.Rows L2

theorem ps_tryT {X : Cx} {body : List Stmt} {h0 : ExceptHandler} {hds : List ExceptHandler} {l : List Clz} {pos : Pos} {tb : WX → TS} {Wout : WX} (hs : X.stack = X.env :: X.outer) (hf : X.env.frame = some X.env.locals) (hN : X.N.Nodup) (tk : Takes X Wout)
    (hb : ∀ (W : WX) (pn : List (Addr × Obj)) (xe : Value → Shared → Prop), Takes (X.tr pn xe) W → PassesOwn (model X.prog X.w) X.A X.env xe → PSs (X.tr pn xe) body (tb W))
    (hh : ClsOk X (h0 :: hds) l) : PS X (.Try body (h0 :: hds) [] [] pos) (tTry Wout tb l) := ps_try_cl hs hf hN tk hb hh
/-! ### a classmethod of the module -/
section
variable {X : Cx} {k : Nat} {C m : Str} {ps : List Str} {sp : Sp} {E : XK} {o e : Expr} {es : List Expr} {pos apos : Pos} {ta : TE} {t : TA} {pl : Sem Bool}
end
/-! ### sorted(text), fewer than 64 signs -/
end U
namespace U
open PySem PySem.Spec PyProof.Rows L2

/-! ### texts of data are texts -/
mutual
/-- all texts in it are shown by texts -/
def fine : PyData → Bool
  | .none | .int _ | .bool _ => true
  | .str x => PyData.strOk (reprText x)
  | .list xs | .tuple xs => fineAll xs
  | .dict kvs => fineKv kvs
def fineAll : List PyData → Bool
  | [] => true
  | x :: xs => fine x && fineAll xs
def fineKv : List (PyData × PyData) → Bool
  | [] => true
  | (k, v) :: r => fine k && (fine v && fineKv r)
end
/-! ### data with dicts in it -/
def kD : Key → PyData
  | .inl i => .int i
  | .inr x => .str x
mutual
inductive Dq (K : PySem.W.Frag) (H : Hp) : V → PyData → Prop
  | qnon : Dq K H .non .none
  | qbl (b : Bool) : Dq K H (.bl b) (.bool b)
  | qint (i : Int) : Dq K H (.int i) (.int i)
  | qstr (x : Str) : Dq K H (.str x) (.str x)
  | qlst {l : Addr} {vs : List V} {es : List PyData} : SqL K H l vs → DqAll K H vs es → Dq K H (.ref l) (.list es)
  | qtup {l : Addr} {vs : List V} {es : List PyData} : SqT K H l vs → DqAll K H vs es → Dq K H (.ref l) (.tuple es)
  | qdct {l : Addr} {kvs : List (Key × V)} {es : List (PyData × PyData)} : H l = some (.dK kvs) → es.map (·.1) = kvs.map (fun p => kD p.1) → DqAll K H (kvs.map (·.2)) (es.map (·.2)) → Dq K H (.ref l) (.dict es)
inductive DqAll (K : PySem.W.Frag) (H : Hp) : List V → List PyData → Prop
  | qnil : DqAll K H [] []
  | qcons {x : V} {xs : List V} {e : PyData} {es : List PyData} : Dq K H x e → DqAll K H xs es → DqAll K H (x :: xs) (e :: es)
end
/-- the interpreter's own table of modules is a dict -/
def sysB (K : PySem.W.Frag) : Bool := match K.lookup sysModules with
  | some o => decide (o.cls = .type "dict")
  | none => false
def KS (K : PySem.W.Frag) : Prop := ∃ o, K.lookup sysModules = some o ∧ o.cls = .type "dict"
theorem kS_ok {K : PySem.W.Frag} (h : sysB K = true) : KS K := by
  unfold sysB at h
  split at h
  · rename_i o e
    exact ⟨o, e, of_decide_eq_true h⟩
  · cases h
theorem kv_vals {kvs : List (Key × V)} {vs : List (Key × Value)} (h : KV kvs vs) : kvs.map (fun p => kD p.1) = vs.map (fun p => kD p.1) ∧ Vals (kvs.map (·.2)) (vs.map (·.2)) := by
  induction h with
  | nil => exact ⟨rfl, .nil⟩
  | cons r _ ih => exact ⟨by rw [List.map_cons, List.map_cons, r.1, ih.1], .cons r.2 ih.2⟩
theorem keys_read {P : Program} {w : World} {h : Heap} {es : List DictEntry} {vs : List (Key × Value)} (p : Pairs (mixKind P w) es vs) : ReadsAll h (es.map (·.key)) (vs.map fun p => kD p.1) [] ∧ es.map (·.val) = vs.map (·.2) := by
  induction p with
  | nil => exact ⟨.nil, rfl⟩
  | @cons e kv es kvs a b _ ih =>
    refine ⟨?_, by rw [List.map_cons, List.map_cons, b, ih.2]⟩
    have q : Reads h e.key (kD kv.1) [] := by
      rcases keyIs_shape a with ⟨i, t, e1, e2⟩ | ⟨x, t, e1, e2⟩
      · rw [e1, e2]; exact .int i t
      · rw [e1, e2]; exact .str x t
    exact ReadsAll.cons q ih.1
section
variable {X : Cx} {pins : List (Addr × Obj)} {σ : L2.St} {H : Hp} {s : Shared} {v : V} {d : PyData}
theorem Dq.reads (S : KS X.K) (I : Inv X pins σ H s) (h : Dq X.K H v d) : ∀ u, RelV v u → ∃ as, sysModules ∉ as ∧ Reads s.heap u d as := by
  obtain ⟨o0, so, sc⟩ := S
  have here := I.kIn _ _ so
  have other : ∀ l o, s.heap.get? l = some o → o.cls = .type "list" → sysModules ≠ l := by
    intro l o e c q
    rw [← q, here] at e
    cases e
    rw [sc] at c
    exact absurd c (by decide)
  refine Dq.rec (motive_1 := fun v d _ => ∀ u, RelV v u → ∃ as, sysModules ∉ as ∧ Reads s.heap u d as) (motive_2 := fun vs ds _ => ∀ us, Vals vs us → ∃ as, sysModules ∉ as ∧ ReadsAll s.heap us ds as) ?_ ?_ ?_ ?_ ?_ ?_ ?_ ?_ ?_ h
  · intro u r; cases r; exact ⟨_, by simp, .none⟩
  · intro b u r; cases r; exact ⟨_, by simp, .bool b⟩
  · intro i u r; obtain ⟨t, rfl⟩ := r; exact ⟨_, by simp, .int i t⟩
  · intro x u r; obtain ⟨t, rfl⟩ := r; exact ⟨_, by simp, .str x t⟩
  · intro l vs es hs _ ih u r
    cases r
    rcases I.list hs with ⟨its, rv, ⟨o, n, ho, hc, _, hd⟩, _⟩
    obtain ⟨as, na, q⟩ := ih _ rv
    exact ⟨_, fun m => (List.mem_cons.mp m).elim (other l o ho hc) na, Reads.list ho hc hd q⟩
  · intro l vs es hs _ ih u r
    cases r
    rcases I.tuple hs with ⟨its, rv, ⟨o, ho, hc, n, hd⟩, _⟩
    obtain ⟨as, na, q⟩ := ih _ rv
    exact ⟨_, na, Reads.tuple ho hc hd q⟩
  · intro l kvs es e ek _ ih u r
    cases r
    obtain ⟨_, nS, vs, rel, o, ents, ep, ho, hx, hdat, _, hp, _⟩ := dk_of I.hok e
    have kv := kv_vals rel
    obtain ⟨as, na, q⟩ := ih _ kv.2
    have kr := keys_read (h := s.heap) hp
    rw [← kv.1, ← ek] at kr
    rw [← kr.2] at q
    refine ⟨l :: [] ++ as, fun m => ?_, Reads.dict ho hx.1 hdat kr.1 q⟩
    rcases List.mem_cons.mp m with m | m
    · rw [← m] at nS
      exact absurd nS (by decide)
    · exact na m
  · intro us r; cases r; exact ⟨_, by simp, .nil⟩
  · intro x xs e es _ _ i1 i2 us r
    cases r with
    | cons r1 r2 =>
      obtain ⟨as, na, q1⟩ := i1 _ r1
      obtain ⟨bs, nb, q2⟩ := i2 _ r2
      exact ⟨_, fun m => (List.mem_append.mp m).elim na nb, ReadsAll.cons q1 q2⟩
theorem Dq.same {K : PySem.W.Frag} {H H' : Hp} {v : V} {d : PyData} (e : Same H H') (h : Dq K H v d) : Dq K H' v d :=
  Dq.rec (motive_1 := fun v d _ => Dq K H' v d) (motive_2 := fun vs ds _ => DqAll K H' vs ds) .qnon .qbl .qint .qstr (fun s _ ih => .qlst (Same.seq e s) ih) (fun s _ ih => .qtup (Same.sqT e s) ih) (fun at_ k _ ih => .qdct (e _ _ at_) k ih) .qnil (fun _ _ a b => .qcons a b) h
/-- the text of any data, dicts among them -/
def uReprQ (K : PySem.W.Frag) : List V → Hp → VK → Prop := fun xs H Q => ∃ v d, xs = [v] ∧ Dq K H v d ∧ d.showable = true ∧ d.depth ≤ 60 ∧ d.shown.length ≤ sizeLine ∧ Q (.str d.shown) H
theorem call_uReprQ (hA : X.A.guards = some []) (hu : X.A.units + 64 < cLine) (S : KS X.K) : CallR X (.builtin "repr") (uReprQ X.K) := by
  intro ps s σ H xs us R I r h
  obtain ⟨v, d, rfl, hd, hs, hz, hl, q⟩ := h
  cases hd with
  | qnon =>
    obtain ⟨_, rfl, same⟩ := vals1 r
    cases same
    rw [PyData.shown] at q
    exact PySem.P.repr_of_none ⟨.str _, H, I.tok _, ⟨_, rfl⟩, q⟩
  | qbl b =>
    obtain ⟨_, rfl, same⟩ := vals1 r
    cases same
    refine PySem.P.repr_of_bool ⟨.str _, H, I.tok _, ⟨s.toks, ?_⟩, q⟩
    cases b <;> rfl
  | qint i =>
    obtain ⟨_, rfl, t, rfl⟩ := vals1 r
    rw [PyData.shown_int] at q
    refine PySem.P.repr_of_int ?_ ⟨.str _, H, I.tok _, ⟨_, rfl⟩, q⟩
    simpa [PyData.showable] using hs
  | qstr x =>
    obtain ⟨_, rfl, t, rfl⟩ := vals1 r
    rw [PyData.shown_str] at q hl
    exact PySem.P.repr_of_str ⟨.str _, H, I.tok _, ⟨_, rfl⟩, q⟩ hl
  | qlst a b =>
    obtain ⟨_, rfl, same⟩ := vals1 r
    cases same
    obtain ⟨as, na, rr⟩ := Dq.reads S I (.qlst a b) _ rfl
    exact repr_of_reads' rr hs (fun _ => na) hA (by omega) (fun _ _ z => z) (fun h' u tk k => ⟨.str _, H, I.kept (t' := tk) k, ⟨_, rfl⟩, q⟩) hl
  | qtup a b =>
    obtain ⟨_, rfl, same⟩ := vals1 r
    cases same
    obtain ⟨as, na, rr⟩ := Dq.reads S I (.qtup a b) _ rfl
    exact repr_of_reads' rr hs (fun _ => na) hA (by omega) (fun _ _ z => z) (fun h' u tk k => ⟨.str _, H, I.kept (t' := tk) k, ⟨_, rfl⟩, q⟩) hl
  | qdct a b c =>
    obtain ⟨_, rfl, same⟩ := vals1 r
    cases same
    obtain ⟨as, na, rr⟩ := Dq.reads S I (.qdct a b c) _ rfl
    exact repr_of_reads' rr hs (fun _ => na) hA (by omega) (fun _ _ z => z) (fun h' u tk k => ⟨.str _, H, I.kept (t' := tk) k, ⟨_, rfl⟩, q⟩) hl
end
end U
namespace U
open PySem PySem.Spec PySem.Calls PyProof.Rows L2

/-! ### cls(..): an object of one's own class, whose class stands in a local name -/
section
variable {X : Cx} {k i : Nat} {x C : Str} {ps : List Str} {sp : Sp} {E : XK} {p pos : Pos} {e : Expr} {es : List Expr} {t : TA}
end
/-! ### o.m(k = v, ..): all arguments by their names -/
section
variable {X : Cx} {CX : CXT} {k : Nat} {f C : Addr} {fd : FuncData} {ps ks : List Str} {sp : Sp} {E : XK} {m : Str} {pos apos : Pos} {o : Expr} {kws : List Keyword} {ta : TE} {tk : TA} {g : List Value → List Value → List Value} {gV : List V → List V → List V} {pl : Sem Bool}
end
end U
namespace U
open PySem PySem.Spec PySem.Calls PyProof.Rows L2

/-! ### x == y where x is of a class with an __eq__ of its own -/
section
variable {X : Cx} {CX : CXT} {n : Nat} {C f : Addr} {fd : FuncData} {ps : List Str} {sp : Sp} {E : XK}
end
end U
namespace U
open PySem PySem.Spec PyProof.Rows L2

/-! ### lists of small integers: their texts, and whether they are alike -/
theorem dp_ints {K : PySem.W.Frag} {H : Hp} {p : Addr} {ns : List Int} (h : SqL K H p (ns.map V.int)) : Dp K H (.ref p) (.list (ns.map PyData.int)) := by
  refine .lst h ?_
  clear h
  induction ns with
  | nil => exact .nil
  | cons n r ih => exact .cons (.int n) ih
section
variable {K : PySem.W.Frag} {H : Hp} {Q : VK} {p p' : Addr} {ns ms : List Int}
end
/-! ### lists of texts -/
section
variable {K : PySem.W.Frag} {H : Hp}
theorem dp_strs {p : Addr} {xs : List Str} (h : SqL K H p (xs.map V.str)) : Dp K H (.ref p) (.list (xs.map PyData.str)) := by
  refine .lst h ?_
  clear h
  induction xs with
  | nil => exact .nil
  | cons n r ih => exact .cons (.str n) ih
theorem strs_eqv (as bs : List Str) : PyData.eqv (.list (as.map PyData.str)) (.list (bs.map PyData.str)) = decide (as = bs) := by
  rw [PyData.eqv]
  induction as generalizing bs with
  | nil => cases bs <;> simp [PyData.eqvAll]
  | cons a r ih =>
    cases bs with
    | nil => simp [PyData.eqvAll]
    | cons b t =>
      simp only [List.map_cons, PyData.eqvAll, ih, PyData.eqv]
      rw [Bool.eq_iff_iff]
      simp
theorem strs_shaped {xs : List Str} (h : ∀ x ∈ xs, PyData.strOk x = true) : SeqAt.shaped (.list (xs.map PyData.str)) = true := by
  have h1 : PyData.canLayAll0 (xs.map PyData.str) = true := by
    induction xs with
    | nil => rfl
    | cons a r ih =>
      have i1 := ih fun x m => h x (List.mem_cons_of_mem _ m)
      have i2 := h a List.mem_cons_self
      simp [PyData.canLayAll0, PyData.canLay0, i1, i2]
  have h2 : PyData.depthAll (xs.map PyData.str) = 0 := by
    clear h h1
    induction xs with
    | nil => rfl
    | cons a r ih => simp [PyData.depthAll, PyData.depth, ih]
  unfold SeqAt.shaped
  rw [PyData.canLay0, h1, PyData.depth, h2]
  decide
end
theorem ne_strs {K : PySem.W.Frag} {H : Hp} {Q : VK} {p q : Addr} {xs ys : List Str} (h : SqL K H p (xs.map V.str)) (h' : SqL K H q (ys.map V.str)) (ok : ∀ x ∈ xs, PyData.strOk x = true) (ok' : ∀ x ∈ ys, PyData.strOk x = true) (r : Q (.bl (!decide (xs = ys))) H) : uNe K (.ref p) (.ref q) H Q :=
  ⟨_, _, dp_strs h, dp_strs h', strs_shaped ok, strs_shaped ok', by rw [strs_eqv]; exact r⟩
end U
namespace U
open PySem PySem.Spec PyProof.Rows L2

/-! ### dict(zip(text, tuple)): a zip whose pair is still held by the loop that fills the dict -/
section
variable {P : Program} {w : World} {A : Around} {E : Value → Shared → Prop} {s : Shared} {z TI TO T i1 i2 : Addr} {fa fb : List Addr} {n m i : Nat} {R1 R2 : Nat → Value → Prop} {S1 S2 : Nat → Heap → Prop} {f : Bool} {oT : Obj}
end
end U
namespace U
open PySem PySem.Spec PyProof.Rows L2

/-! ### dict(zip(text, tuple)) -/
/-- the cells: the zip, its pair of iterators, its last pair, the two iterators, the tuple -/
structure TCells (z TI TO i1 i2 l : Addr) : Prop where
  n1 : TI ≠ z
  n2 : TO ≠ z
  n3 : TI ≠ TO
  n4 : TI ≠ i1
  n5 : TI ≠ i2
  n6 : z ≠ i1
  n7 : z ≠ i2
  n8 : TO ≠ i1
  n9 : TO ≠ i2
  n10 : i1 ≠ i2
  l1 : l ≠ z
  l2 : l ≠ TO
  l3 : l ≠ i1
  l4 : l ≠ i2
theorem TCells.sep {z TI TO i1 i2 l : Addr} (c : TCells z TI TO i1 i2 l) : ZipSep2 z TI TO i1 i2 [i1] [i2, l] where
  TIz := c.n1
  TOz := c.n2
  TITO := c.n3
  TIi1 := c.n4
  mem1 := List.mem_cons_self
  zf1 := by simp [c.n6]
  Tf1 := by simp [c.n8]
  TIi2 := c.n5
  mem2 := List.mem_cons_self
  zf2 := by simp [c.n7, c.l1.symm]
  Tf2 := by simp [c.n9, c.l2.symm]
  sep1_2 := by simp [c.n10, c.l3.symm]
  sep2_1 := by simp [c.n10.symm]
end U
namespace U
open PySem PySem.Spec PyProof.Rows L2

/-! ### str(x), by the kinds of x -/
end U
namespace U
open PySem PySem.Spec PyProof.Rows L2

/-! ### enumerate(tuple) -/
section
open Sem (wp)
end
end U
namespace U
open PySem PySem.Spec PyProof.Rows L2

/-! ### the table of turns -/
def turnsT : List (Str × List Int) := [("ab", [0, 1, 5, 2, 0, 1, 2]), ("ac", [1, 0, 3, 4, 0, 2, 1]), ("ba", [2, 3, 4, 0, 1, 0, 2]), ("bc", [3, 2, 1, 5, 1, 2, 0]), ("ca", [4, 5, 2, 1, 2, 0, 1]), ("cb", [5, 4, 0, 3, 2, 1, 0])]
def TuK (K : PySem.W.Frag) (w : World) : Prop := ∀ q ∈ turnsT, ∃ p, KDct K w (He.ga K "_TURNS") q.1 (.ref p) ∧ ∀ H, SqT K H p (q.2.map V.int)
def rTurn (K : PySem.W.Frag) : R2 := fun x y H Q => ∃ z ns, x = .ref (He.ga K "_TURNS") ∧ y = .str z ∧ (z, ns) ∈ turnsT ∧ ∀ p, SqT K H p (ns.map V.int) → Q (.ref p) H
theorem ix_turn {X : Cx} (h : TuK X.K X.w) : IxR X (rTurn X.K) := by
  intro ea eb pins s σ H x y u v Q I rx ry q
  obtain ⟨z, t, rfl, rfl, hm, q⟩ := q
  obtain ⟨p, h1, h2⟩ := h _ hm
  exact ix_kdict ea eb pins s σ H _ _ u v Q I rx ry ⟨_, z, _, rfl, rfl, h1, q p (h2 H)⟩
def tupAtB (K : PySem.W.Frag) (p : Addr) (ns : List Int) : Bool := match K.lookup p with
  | some ⟨.type c, _, .seq its _, _⟩ => decide (c = "tuple") && (decide (its.size ≤ sizeLine) && He.relAll (ns.map V.int) its.toList)
  | _ => false
theorem tupAtB_ok {K : PySem.W.Frag} {p : Addr} {ns : List Int} (h : tupAtB K p ns = true) (H : Hp) : SqT K H p (ns.map V.int) := by
  unfold tupAtB at h
  split at h
  · rename_i c dd its n sl e
    (simp only [Bool.and_eq_true, decide_eq_true_eq] at h)
    exact .inr ⟨_, its, n, e, congrArg Value.type h.1, rfl, h.2.1, He.relAll_ok h.2.2⟩
  · cases h
def tuB (K : PySem.W.Frag) : Bool := turnsT.all fun q => match PySem.W.nsIn K (He.ga K "_TURNS") q.1 with
  | some (some (.ref p)) => tupAtB K p q.2
  | _ => false
theorem tuK_of {K : PySem.W.Frag} {w : World} (hd : ∃ es n, KDict K w (He.ga K "_TURNS") es n) (hv : tuB K = true) : TuK K w := by
  obtain ⟨es, n, h1, h2, h3⟩ := hd
  intro q hq
  have := List.all_eq_true.mp hv q hq
  split at this
  · rename_i p e
    exact ⟨p, ⟨es, n, _, h1, h2, e, rfl⟩, tupAtB_ok this⟩
  · cases this
end U
namespace U
open PySem PySem.Spec PyProof.Rows L2
/-- the exceptions that the law catches -/
def excN : List Str := ["InvalidYard", "InvalidPattern", "InvalidArrangement", "InvalidCount"]
def chS : List Str := ["a", "b", "c", "ab", "ac", "bc", "abc"]
def kpB (K : PySem.W.Frag) : Bool := He.tupB K "_CHOICES" (chS.map He.Dv.str)
end U
namespace U
open PySem PySem.Spec PyProof.Rows L2

def krB (K : PySem.W.Frag) : Bool := (He.Fa.cls "Reckoning").ok K && ((He.Fa.noat "Reckoning" "bound").ok K && ((He.Fa.noat "Reckoning" "prices").ok K && ((He.Fa.noat "Reckoning" "towers").ok K && ((He.Fa.noat "Reckoning" "_backwards").ok K && decide (He.ga K "Yard" ≠ He.ga K "Reckoning")))))
end U
namespace U
open PySem PySem.Spec PyProof.Rows L2
def top (i : Nat) : Stmt := PySem.Challenge.pw_cratetowers_k40_patterns_told.main.body.getD i (.Pass ⟨0, 0, 0, 0⟩)
abbrev s_InvalidYard_init : Stmt := inClass (top 3) 0
abbrev s_InvalidArrangement_init : Stmt := inClass (top 5) 0
abbrev s_InvalidWay_init : Stmt := inClass (top 6) 0
abbrev s_InvalidCount_init : Stmt := inClass (top 8) 0
abbrev s_InvalidPattern_init : Stmt := inClass (top 9) 0
abbrev s_both_lines : Stmt := top 13
abbrev s_towers_above : Stmt := top 14
abbrev s_to_towers_above : Stmt := top 15
abbrev s__from_place : Stmt := top 16
abbrev s_turned : Stmt := top 17
abbrev s_from_each_tower : Stmt := top 18
abbrev s_reckoning_of : Stmt := top 19
abbrev s_without_bars : Stmt := top 20
abbrev s_Reckoning_init : Stmt := inClass (top 21) 0
abbrev s_Reckoning_backwards : Stmt := inClass (top 21) 1
abbrev s_Reckoning_to_towers : Stmt := inClass (top 21) 2
abbrev s_Reckoning_from_towers : Stmt := inClass (top 21) 3
abbrev s_Reckoning_cheapest : Stmt := inClass (top 21) 4
abbrev s_Reckoning_told : Stmt := inClass (top 21) 5
abbrev s_first_apart : Stmt := top 22
abbrev s_is_way : Stmt := top 30
abbrev s_is_price : Stmt := top 31
abbrev s_is_integer : Stmt := top 32
abbrev s_third : Stmt := top 35
abbrev s_check_way : Stmt := top 36
abbrev s_check_yard : Stmt := top 37
abbrev s_Yard_init : Stmt := inClass (top 39) 0
abbrev s_Yard_len : Stmt := inClass (top 39) 3
abbrev s_Yard_reckoning : Stmt := inClass (top 39) 8
abbrev s__are_rows : Stmt := top 40
abbrev s__is_price_row : Stmt := top 41
abbrev s_is_arrangement : Stmt := top 49
abbrev s_check_arrangement : Stmt := top 50
abbrev s_check_both : Stmt := top 51
abbrev s_is_pattern : Stmt := top 64
abbrev s_check_pattern : Stmt := top 65
abbrev s_fits : Stmt := top 66
abbrev s_how_many_fit : Stmt := top 67
abbrev s_cost_to : Stmt := top 68
abbrev s_cost_from : Stmt := top 69
abbrev s_cost_between : Stmt := top 70
abbrev s_nearest : Stmt := top 72
abbrev s_nearest_start : Stmt := top 73
abbrev s_how_many_nearest : Stmt := top 75
abbrev s_pair_between : Stmt := top 76
abbrev s_home_costs : Stmt := top 80
abbrev s__bring_home : Stmt := top 81
abbrev s_home_within : Stmt := top 82
abbrev s__law_cell : Stmt := top 84
abbrev s__law_box : Stmt := top 85
abbrev s__law_take : Stmt := top 86
abbrev s__law_size : Stmt := top 87
abbrev s__law_plain : Stmt := top 88
abbrev s__law_word : Stmt := top 89
abbrev s__law_pattern : Stmt := top 90
abbrev s__law_fits : Stmt := top 91
abbrev s__law_asked : Stmt := top 92
abbrev s__law_caught : Stmt := top 93
abbrev s__law_odd : Stmt := top 94
abbrev s__law_very_right : Stmt := top 95
abbrev s__law_right : Stmt := top 96
abbrev s_law : Stmt := top 97
abbrev mkD (at_ : PySem.W.Frag → Addr) (nm qual : Str) (st : Stmt) : He5.DefA := ⟨at_, nm, qual, defArgs st, defBody st, defScope st, [], []⟩
def d_InvalidYard_init : He5.DefA := mkD (fun K => He.ma K (He.ga K "InvalidYard") "__init__") "__init__" "InvalidYard.__init__" s_InvalidYard_init
def d_InvalidArrangement_init : He5.DefA := mkD (fun K => He.ma K (He.ga K "InvalidArrangement") "__init__") "__init__" "InvalidArrangement.__init__" s_InvalidArrangement_init
def d_InvalidWay_init : He5.DefA := mkD (fun K => He.ma K (He.ga K "InvalidWay") "__init__") "__init__" "InvalidWay.__init__" s_InvalidWay_init
def d_InvalidCount_init : He5.DefA := mkD (fun K => He.ma K (He.ga K "InvalidCount") "__init__") "__init__" "InvalidCount.__init__" s_InvalidCount_init
def d_InvalidPattern_init : He5.DefA := mkD (fun K => He.ma K (He.ga K "InvalidPattern") "__init__") "__init__" "InvalidPattern.__init__" s_InvalidPattern_init
def d_both_lines : He5.DefA := mkD (fun K => He.ga K "both_lines") "both_lines" "both_lines" s_both_lines
def d_towers_above : He5.DefA := mkD (fun K => He.ga K "towers_above") "towers_above" "towers_above" s_towers_above
def d_to_towers_above : He5.DefA := mkD (fun K => He.ga K "to_towers_above") "to_towers_above" "to_towers_above" s_to_towers_above
def d__from_place : He5.DefA := mkD (fun K => He.ga K "_from_place") "_from_place" "_from_place" s__from_place
def d_turned : He5.DefA := mkD (fun K => He.ga K "turned") "turned" "turned" s_turned
def d_from_each_tower : He5.DefA := mkD (fun K => He.ga K "from_each_tower") "from_each_tower" "from_each_tower" s_from_each_tower
def d_reckoning_of : He5.DefA := mkD (fun K => He.ga K "reckoning_of") "reckoning_of" "reckoning_of" s_reckoning_of
def d_without_bars : He5.DefA := mkD (fun K => He.ga K "without_bars") "without_bars" "without_bars" s_without_bars
def d_Reckoning_init : He5.DefA := mkD (fun K => He.ma K (He.ga K "Reckoning") "__init__") "__init__" "Reckoning.__init__" s_Reckoning_init
def d_Reckoning_backwards : He5.DefA := mkD (fun K => He.ma K (He.ga K "Reckoning") "backwards") "backwards" "Reckoning.backwards" s_Reckoning_backwards
def d_Reckoning_to_towers : He5.DefA := mkD (fun K => He.ma K (He.ga K "Reckoning") "to_towers") "to_towers" "Reckoning.to_towers" s_Reckoning_to_towers
def d_Reckoning_from_towers : He5.DefA := mkD (fun K => He.ma K (He.ga K "Reckoning") "from_towers") "from_towers" "Reckoning.from_towers" s_Reckoning_from_towers
def d_Reckoning_cheapest : He5.DefA := mkD (fun K => He.ma K (He.ga K "Reckoning") "cheapest") "cheapest" "Reckoning.cheapest" s_Reckoning_cheapest
def d_Reckoning_told : He5.DefA := mkD (fun K => He.ma K (He.ga K "Reckoning") "told") "told" "Reckoning.told" s_Reckoning_told
def d_first_apart : He5.DefA := mkD (fun K => He.ga K "first_apart") "first_apart" "first_apart" s_first_apart
def d_is_way : He5.DefA := mkD (fun K => He.ga K "is_way") "is_way" "is_way" s_is_way
def d_is_price : He5.DefA := mkD (fun K => He.ga K "is_price") "is_price" "is_price" s_is_price
def d_is_integer : He5.DefA := mkD (fun K => He.ga K "is_integer") "is_integer" "is_integer" s_is_integer
def d_third : He5.DefA := mkD (fun K => He.ga K "third") "third" "third" s_third
def d_check_way : He5.DefA := mkD (fun K => He.ga K "check_way") "check_way" "check_way" s_check_way
def d_check_yard : He5.DefA := mkD (fun K => He.ga K "check_yard") "check_yard" "check_yard" s_check_yard
def d_Yard_init : He5.DefA := mkD (fun K => He.ma K (He.ga K "Yard") "__init__") "__init__" "Yard.__init__" s_Yard_init
def d_Yard_len : He5.DefA := mkD (fun K => He.ma K (He.ga K "Yard") "__len__") "__len__" "Yard.__len__" s_Yard_len
def d_Yard_reckoning : He5.DefA := mkD (fun K => He.ma K (He.ga K "Yard") "reckoning") "reckoning" "Yard.reckoning" s_Yard_reckoning
def d__are_rows : He5.DefA := mkD (fun K => He.ga K "_are_rows") "_are_rows" "_are_rows" s__are_rows
def d__is_price_row : He5.DefA := mkD (fun K => He.ga K "_is_price_row") "_is_price_row" "_is_price_row" s__is_price_row
def d_is_arrangement : He5.DefA := mkD (fun K => He.ga K "is_arrangement") "is_arrangement" "is_arrangement" s_is_arrangement
def d_check_arrangement : He5.DefA := mkD (fun K => He.ga K "check_arrangement") "check_arrangement" "check_arrangement" s_check_arrangement
def d_check_both : He5.DefA := mkD (fun K => He.ga K "check_both") "check_both" "check_both" s_check_both
def d_is_pattern : He5.DefA := mkD (fun K => He.ga K "is_pattern") "is_pattern" "is_pattern" s_is_pattern
def d_check_pattern : He5.DefA := mkD (fun K => He.ga K "check_pattern") "check_pattern" "check_pattern" s_check_pattern
def d_fits : He5.DefA := mkD (fun K => He.ga K "fits") "fits" "fits" s_fits
def d_how_many_fit : He5.DefA := mkD (fun K => He.ga K "how_many_fit") "how_many_fit" "how_many_fit" s_how_many_fit
def d_cost_to : He5.DefA := mkD (fun K => He.ga K "cost_to") "cost_to" "cost_to" s_cost_to
def d_cost_from : He5.DefA := mkD (fun K => He.ga K "cost_from") "cost_from" "cost_from" s_cost_from
def d_cost_between : He5.DefA := mkD (fun K => He.ga K "cost_between") "cost_between" "cost_between" s_cost_between
def d_nearest : He5.DefA := mkD (fun K => He.ga K "nearest") "nearest" "nearest" s_nearest
def d_nearest_start : He5.DefA := mkD (fun K => He.ga K "nearest_start") "nearest_start" "nearest_start" s_nearest_start
def d_how_many_nearest : He5.DefA := mkD (fun K => He.ga K "how_many_nearest") "how_many_nearest" "how_many_nearest" s_how_many_nearest
def d_pair_between : He5.DefA := mkD (fun K => He.ga K "pair_between") "pair_between" "pair_between" s_pair_between
def d_home_costs : He5.DefA := mkD (fun K => He.ga K "home_costs") "home_costs" "home_costs" s_home_costs
def d__bring_home : He5.DefA := mkD (fun K => He.ga K "_bring_home") "_bring_home" "_bring_home" s__bring_home
def d_home_within : He5.DefA := mkD (fun K => He.ga K "home_within") "home_within" "home_within" s_home_within
def d__law_cell : He5.DefA := mkD (fun K => He.ga K "_law_cell") "_law_cell" "_law_cell" s__law_cell
def d__law_box : He5.DefA := mkD (fun K => He.ga K "_law_box") "_law_box" "_law_box" s__law_box
def d__law_take : He5.DefA := mkD (fun K => He.ga K "_law_take") "_law_take" "_law_take" s__law_take
def d__law_size : He5.DefA := mkD (fun K => He.ga K "_law_size") "_law_size" "_law_size" s__law_size
def d__law_plain : He5.DefA := mkD (fun K => He.ga K "_law_plain") "_law_plain" "_law_plain" s__law_plain
def d__law_word : He5.DefA := mkD (fun K => He.ga K "_law_word") "_law_word" "_law_word" s__law_word
def d__law_pattern : He5.DefA := mkD (fun K => He.ga K "_law_pattern") "_law_pattern" "_law_pattern" s__law_pattern
def d__law_fits : He5.DefA := mkD (fun K => He.ga K "_law_fits") "_law_fits" "_law_fits" s__law_fits
def d__law_asked : He5.DefA := mkD (fun K => He.ga K "_law_asked") "_law_asked" "_law_asked" s__law_asked
def d__law_caught : He5.DefA := mkD (fun K => He.ga K "_law_caught") "_law_caught" "_law_caught" s__law_caught
def d__law_odd : He5.DefA := mkD (fun K => He.ga K "_law_odd") "_law_odd" "_law_odd" s__law_odd
def d__law_very_right : He5.DefA := mkD (fun K => He.ga K "_law_very_right") "_law_very_right" "_law_very_right" s__law_very_right
def d__law_right : He5.DefA := mkD (fun K => He.ga K "_law_right") "_law_right" "_law_right" s__law_right
def d_law : He5.DefA := mkD (fun K => He.ga K "law") "law" "law" s_law
def fn : List He5.DefA := [d_InvalidYard_init, d_InvalidArrangement_init, d_InvalidWay_init, d_InvalidCount_init, d_InvalidPattern_init, d_both_lines, d_towers_above, d_to_towers_above, d__from_place, d_turned, d_from_each_tower, d_reckoning_of, d_without_bars, d_Reckoning_init, d_Reckoning_backwards, d_Reckoning_to_towers, d_Reckoning_from_towers, d_Reckoning_cheapest, d_Reckoning_told, d_first_apart, d_is_way, d_is_price, d_is_integer, d_third, d_check_way, d_check_yard, d_Yard_init, d_Yard_len, d_Yard_reckoning, d__are_rows, d__is_price_row, d_is_arrangement, d_check_arrangement, d_check_both, d_is_pattern, d_check_pattern, d_fits, d_how_many_fit, d_cost_to, d_cost_from, d_cost_between, d_nearest, d_nearest_start, d_how_many_nearest, d_pair_between, d_home_costs, d__bring_home, d_home_within, d__law_cell, d__law_box, d__law_take, d__law_size, d__law_plain, d__law_word, d__law_pattern, d__law_fits, d__law_asked, d__law_caught, d__law_odd, d__law_very_right, d__law_right, d_law]
def fa : List He.Fa := [.glo "CratesError", .glo "InvalidArrangement", .glo "InvalidCount", .glo "InvalidPattern", .glo "InvalidWay", .glo "InvalidYard", .glo "Nearest", .glo "PLACES", .glo "Reckoning", .glo "THIRDS", .glo "WAYS", .glo "Yard", .glo "_CHOICES", .glo "_TURNS", .glo "_are_rows", .glo "_bring_home", .glo "_cheapest_line", .glo "_cost", .glo "_first_arrangement", .glo "_first_nearest", .glo "_first_shared", .glo "_from_place", .glo "_is_price_row", .glo "_law_asked", .glo "_law_box", .glo "_law_caught", .glo "_law_cell", .glo "_law_fits", .glo "_law_odd", .glo "_law_pattern", .glo "_law_plain", .glo "_law_right", .glo "_law_size", .glo "_law_take", .glo "_law_very_right", .glo "_law_word", .glo "both_lines", .glo "check_arrangement", .glo "check_both", .glo "check_pattern", .glo "check_way", .glo "check_yard", .glo "cost_between", .glo "cost_from", .glo "cost_to", .glo "first_apart", .glo "fits", .glo "from_each_tower", .glo "home_costs", .glo "home_within", .glo "how_many", .glo "how_many_fit", .glo "how_many_nearest", .glo "is_arrangement", .glo "is_integer", .glo "is_pattern", .glo "is_price", .glo "is_way", .glo "law", .glo "nearest", .glo "nearest_start", .glo "pair_between", .glo "reckoning_of", .glo "third", .glo "to_towers_above", .glo "towers_above", .glo "turned", .glo "without_bars", .int "MOST_CRATES" 60, .str "_PLACE_SIGNS" "abc", .free "all", .free "any", .free "bool", .free "enumerate", .free "int", .free "isinstance", .free "len", .free "list", .free "max", .free "min", .free "range", .free "repr", .free "str", .free "sum", .free "tuple", .free "zip", .mkr "Yard", .mkr "Reckoning", .meth "Reckoning" "__init__", .meth "Reckoning" "backwards", .meth "Reckoning" "to_towers", .meth "Reckoning" "from_towers", .meth "Reckoning" "cheapest", .meth "Reckoning" "told", .meth "Yard" "__init__", .meth "Yard" "__len__", .meth "Yard" "reckoning"]
def ts : List He.Tab := [((fun K => He.ga K "THIRDS"), thirds.map (·.1)), ((fun K => He.ga K "_TURNS"), turnsT.map (·.1))]
def ex (K : PySem.W.Frag) : Bool := kfB K && sysB K && xFB "CratesError" excN K && krB K && kpB K && thB K && tuB K && excB K "InvalidArrangement" "value" && excB K "InvalidCount" "value" && excB K "InvalidPattern" "value" && excB K "InvalidWay" "value" && excB K "InvalidYard" "value"
abbrev AlM : Type := (He.AlD × List (Option (List (Option (Str × Int))))) × Bool
def as0 : List Nat := [3, 6, 4, 21, 31, 51, 70, 89, 108, 127, 146, 165, 168, 169, 182, 189, 194, 201, 208, 215, 220, 225, 280, 289, 290, 291, 292, 299, 306, 313, 320, 327, 334, 341, 348, 355, 464, 473, 478, 483, 488, 495, 502, 509, 516, 523, 530, 531, 532, 533, 538, 545, 550, 557, 591, 596, 601, 608, 613, 620]
def as1 : List Nat := [627, 634, 641, 648, 655, 662, 669, 676, 683, 688, 695, 702, 707, 714, 719, 726, 733, 740, 747, 754, 759, 764, 769, 776, 783, 790, 795, 802, 807, 0, 20, 30, 50, 69, 88, 107, 126, 145, 164, 170, 171, 172, 173, 174, 175, 181, 188, 193, 200, 207, 214, 219, 224, 279, 288, 298, 305, 312, 319, 326]
def as2 : List Nat := [333, 340, 347, 354, 463, 472, 477, 482, 487, 494, 501, 508, 515, 522, 529, 537, 544, 549, 556, 590, 600, 607, 612, 619, 626, 633, 640, 647, 654, 661, 668, 675, 682, 687, 694, 701, 706, 713, 718, 725, 732, 739, 746, 753, 758, 763, 768, 775, 782, 789, 794, 801, 806, 15, 16, 17, 18, 19, 29, 32]
def as3 : List Nat := [48, 49, 67, 68, 86, 87, 105, 106, 124, 125, 143, 144, 162, 163, 176, 177, 178, 179, 180, 183, 184, 185, 186, 187, 190, 191, 192, 195, 196, 197, 198, 199, 202, 203, 204, 205, 206, 209, 210, 211, 212, 213, 216, 217, 218, 221, 222, 223, 239, 244, 251, 258, 263, 270, 277, 278, 281, 282, 285, 286]
def as4 : List Nat := [287, 293, 294, 295, 296, 297, 300, 301, 302, 303, 304, 307, 308, 309, 310, 311, 314, 315, 316, 317, 318, 321, 322, 323, 324, 325, 328, 329, 330, 331, 332, 335, 336, 337, 338, 339, 342, 343, 344, 345, 346, 349, 350, 351, 352, 353, 367, 374, 384, 392, 399, 404, 409, 416, 423, 430, 437, 444, 449, 456]
def as5 : List Nat := [461, 462, 465, 466, 469, 470, 471, 474, 475, 476, 479, 480, 481, 484, 485, 486, 489, 490, 491, 492, 493, 496, 497, 498, 499, 500, 503, 504, 505, 506, 507, 510, 511, 512, 513, 514, 517, 518, 519, 520, 521, 524, 525, 526, 527, 528, 534, 535, 536, 539, 540, 541, 542, 543, 546, 547, 548, 551, 552, 553]
def as6 : List Nat := [554, 555, 569, 574, 581, 588, 589, 592, 593, 597, 598, 599, 602, 603, 604, 605, 606, 609, 610, 611, 614, 615, 616, 617, 618, 621, 622, 623, 624, 625, 628, 629, 630, 631, 632, 635, 636, 637, 638, 639, 642, 643, 644, 645, 646, 649, 650, 651, 652, 653, 656, 657, 658, 659, 660, 663, 664, 665, 666, 667]
def as7 : List Nat := [670, 671, 672, 673, 674, 677, 678, 679, 680, 681, 684, 685, 686, 689, 690, 691, 692, 693, 696, 697, 698, 699, 700, 703, 704, 705, 708, 709, 710, 711, 712, 715, 716, 717, 720, 721, 722, 723, 724, 727, 728, 729, 730, 731, 734, 735, 736, 737, 738, 741, 742, 743, 744, 745, 748, 749, 750, 751, 752, 755]
def as8 : List Nat := [756, 757, 760, 761, 762, 765, 766, 767, 770, 771, 772, 773, 774, 777, 778, 779, 780, 781, 784, 785, 786, 787, 788, 791, 792, 793, 796, 797, 798, 799, 800, 803, 804, 805, 47, 66, 85, 104, 123, 142, 161, 238, 243, 250, 257, 262, 269, 276, 366, 372, 373, 382, 383, 391, 398, 403, 408, 415, 422, 429]
def as9 : List Nat := [436, 443, 448, 455, 460, 568, 573, 580, 587, 42, 43, 44, 45, 46, 61, 62, 63, 64, 65, 80, 81, 82, 83, 84, 99, 100, 101, 102, 103, 118, 119, 120, 121, 122, 137, 138, 139, 140, 141, 156, 157, 158, 159, 160, 233, 234, 235, 236, 237, 240, 241, 242, 245, 246, 247, 248, 249, 252, 253, 254]
def as10 : List Nat := [255, 256, 259, 260, 261, 264, 265, 266, 267, 268, 271, 272, 273, 274, 275, 363, 364, 365, 371, 375, 381, 385, 386, 387, 388, 389, 390, 393, 394, 395, 396, 397, 400, 401, 402, 405, 406, 407, 410, 411, 412, 413, 414, 417, 418, 419, 420, 421, 424, 425, 426, 427, 428, 431, 432, 433, 434, 435, 438, 439]
def as11 : List Nat := [440, 441, 442, 445, 446, 447, 450, 451, 452, 453, 454, 457, 458, 459, 565, 566, 567, 570, 571, 572, 575, 576, 577, 578, 579, 582, 583, 584, 585, 586, 368, 369, 370, 376, 377, 378, 379, 380, 2, 1]
def asL : List Nat := as0 ++ (as1 ++ (as2 ++ (as3 ++ (as4 ++ (as5 ++ (as6 ++ (as7 ++ (as8 ++ (as9 ++ (as10 ++ (as11)))))))))))
def asM (_ : Addr → Option Obj) (_ : Nat) : List Addr := asL
def tabsM (ts : List He.Tab) (K : PySem.W.Frag) : List (Option (List (Option (Str × Int)))) := ts.map fun t => He.dicW K (t.1 K)
def keysM (ts : List He.Tab) (w : World) : List (Option (List (Option (Str × Int)))) := ts.map fun t => some (He.keysIn w.params t.2)
def obsM (n : Nat) (fa : List He.Fa) (fn : List He5.DefA) (ts : List He.Tab) (ex : PySem.W.Frag → Bool) (g : Addr → Option Obj) : AlM := ((He5.obsA fa fn (He.frG g (asM g n)), tabsM ts (He.frG g (asM g n))), ex (He.frG g (asM g n)))
def hookM (n : Nat) (fa : List He.Fa) (fn : List He5.DefA) (ts : List He.Tab) (ex : PySem.W.Frag → Bool) : PySem.W.Hook where
  α := AlM
  obs := fun s => obsM n fa fn ts ex s.heap.get?
  val := fun w => ((He5.valA fn, keysM ts w), true)
  says := fun w h => ∃ K : PySem.W.Frag, K.In h ∧ (He5.SaysA fa fn K ∧ tabsM ts K = keysM ts w) ∧ ex K = true
  of := fun _ _ e => ⟨_, He.frG_in, ⟨congrArg (fun z : AlM => z.1.1) e, congrArg (fun z : AlM => z.1.2) e⟩, congrArg (fun z : AlM => z.2) e⟩
  keeps := fun _ _ _ held kept => held.elim fun K z => ⟨K, z.1.keeps kept, z.2⟩
theorem obsM_eq {n : Nat} {fa : List He.Fa} {fn : List He5.DefA} {ts : List He.Tab} {ex : PySem.W.Frag → Bool} {g : Addr → Option Obj} {s : Shared} (h : ∀ a, g a = s.heap.get? a) : obsM n fa fn ts ex g = (hookM n fa fn ts ex).obs s := by
  obtain rfl : g = s.heap.get? := funext h
  rfl
theorem tabM {ts : List He.Tab} {w : World} {K : PySem.W.Frag} (c : tabsM ts K = keysM ts w) (i : Nat) {t : He.Tab} (h : ts[i]? = some t := by rfl) : ∃ es n, KDict K w (t.1 K) es n := by
  have e : (tabsM ts K)[i]? = (keysM ts w)[i]? := by rw [c]
  unfold tabsM keysM at e
  rw [List.getElem?_map, List.getElem?_map, h] at e
  exact He.dicW_ok (Option.some.inj e)
abbrev RowR : PySem.W.OpenRow := PySem.W.OpenLaw.row PySem.Challenge.rw_cratetowers_k40_patterns_told
abbrev hk : PySem.W.Hook := hookM 6 fa fn ts ex
def ob (s : PySem.W.SharedT) : AlM := obsM 6 fa fn ts ex (HandSHeadRun.getT s)
theorem ob_eq (s : PySem.W.SharedT) : ob s = hk.obs s.abs := obsM_eq (HandSHeadRun.getT_eq s)
def loose0 : List Str := [PySem.Str.ofString "_wall", PySem.Str.ofString "CratesError", PySem.Str.ofString "InvalidYard", PySem.Str.ofString "InvalidText", PySem.Str.ofString "InvalidArrangement", PySem.Str.ofString "InvalidWay", PySem.Str.ofString "InvalidCrate", PySem.Str.ofString "InvalidCount", PySem.Str.ofString "InvalidPattern", PySem.Str.ofString "THIRDS", PySem.Str.ofString "_TURNS", PySem.Str.ofString "both_lines", PySem.Str.ofString "towers_above", PySem.Str.ofString "to_towers_above", PySem.Str.ofString "_from_place", PySem.Str.ofString "turned", PySem.Str.ofString "from_each_tower", PySem.Str.ofString "reckoning_of", PySem.Str.ofString "without_bars", PySem.Str.ofString "Reckoning", PySem.Str.ofString "first_apart", PySem.Str.ofString "PLACES", PySem.Str.ofString "WAYS", PySem.Str.ofString "COLUMNS", PySem.Str.ofString "MOST_CRATES", PySem.Str.ofString "_DIGITS", PySem.Str.ofString "_BAR", PySem.Str.ofString "is_way", PySem.Str.ofString "is_price", PySem.Str.ofString "is_integer"]
def loose1 : List Str := [PySem.Str.ofString "is_integer_within", PySem.Str.ofString "is_numeral", PySem.Str.ofString "third", PySem.Str.ofString "check_way", PySem.Str.ofString "check_yard", PySem.Str.ofString "check_crate", PySem.Str.ofString "Yard", PySem.Str.ofString "_are_rows", PySem.Str.ofString "_is_price_row", PySem.Str.ofString "_is_yard_text", PySem.Str.ofString "_is_line", PySem.Str.ofString "_is_price_text", PySem.Str.ofString "_price_text", PySem.Str.ofString "_price_of", PySem.Str.ofString "_PLACE_SIGNS", PySem.Str.ofString "is_arrangement", PySem.Str.ofString "check_arrangement", PySem.Str.ofString "check_both", PySem.Str.ofString "START_BIT", PySem.Str.ofString "_BITS", PySem.Str.ofString "_PLACES_OF", PySem.Str.ofString "_ENDS", PySem.Str.ofString "all_below", PySem.Str.ofString "_joined", PySem.Str.ofString "first_of", PySem.Str.ofString "how_many", PySem.Str.ofString "Nearest", PySem.Str.ofString "_CHOICES", PySem.Str.ofString "is_pattern", PySem.Str.ofString "check_pattern"]
def loose2 : List Str := [PySem.Str.ofString "fits", PySem.Str.ofString "how_many_fit", PySem.Str.ofString "cost_to", PySem.Str.ofString "cost_from", PySem.Str.ofString "cost_between", PySem.Str.ofString "_cost", PySem.Str.ofString "nearest", PySem.Str.ofString "nearest_start", PySem.Str.ofString "_first_nearest", PySem.Str.ofString "how_many_nearest", PySem.Str.ofString "pair_between", PySem.Str.ofString "_first_shared", PySem.Str.ofString "_cheapest_line", PySem.Str.ofString "_first_arrangement", PySem.Str.ofString "home_costs", PySem.Str.ofString "_bring_home", PySem.Str.ofString "home_within", PySem.Str.ofString "_law_cell", PySem.Str.ofString "_law_box", PySem.Str.ofString "_law_take", PySem.Str.ofString "_law_size", PySem.Str.ofString "_law_plain", PySem.Str.ofString "_law_word", PySem.Str.ofString "_law_pattern", PySem.Str.ofString "_law_fits", PySem.Str.ofString "_law_asked", PySem.Str.ofString "_law_caught", PySem.Str.ofString "_law_odd", PySem.Str.ofString "_law_very_right", PySem.Str.ofString "_law_right"]
def loose : List Str := loose0 ++ loose1 ++ loose2
theorem run_f (w : World) : HandSHeadRun.RunEq RowR (PySem.W.view RowR.prog [97]) hk ob 20000 loose (w.withFollow "special-get-raises" false) := by
  intro os
  kernel_rfl
theorem run_t (w : World) : HandSHeadRun.RunEq RowR (PySem.W.view RowR.prog [97]) hk ob 20000 loose (w.withFollow "special-get-raises" true) := by
  intro os
  kernel_rfl
theorem run (w : World) : HandSHeadRun.RunEq RowR (PySem.W.view RowR.prog [97]) hk ob 20000 loose w :=
  PySem.W.byRow2 "special-get-raises" (P := fun w => HandSHeadRun.RunEq RowR (PySem.W.view RowR.prog [97]) hk ob 20000 loose w) run_f run_t w
end U
namespace U
open PySem PySem.Spec PyProof.Rows L2

/-! ### yards -/
def pV : Option Int → V
  | none => .non
  | some i => .int i
def SqA (K : PySem.W.Frag) (H : Hp) (p : Addr) (xs : List V) : Prop := SqL K H p xs ∨ SqT K H p xs
def okP : Option Int → Bool
  | none => true
  | some i => decide (0 < i)
/-- at y a yard of these rows -/
def Yd (K : PySem.W.Frag) (H : Hp) (y : Addr) (rows : List (List (Option Int))) : Prop :=
  ∃ (dx t : Addr) (as : List Addr), (∃ rk, H y = some (.ins (He.ga K "Yard") dx [("_rows", .ref t), ("_reckoning", rk)])) ∧ SqT K H t (as.map V.ref) ∧ as.length = rows.length ∧ rows.length ≤ 60 ∧ 1 ≤ rows.length ∧
    (∀ (i : Nat) (a : Addr) (r : List (Option Int)), as[i]? = some a → rows[i]? = some r → SqT K H a (r.map pV)) ∧ ∀ r ∈ rows, r.length = 6 ∧ r.all okP = true
section
variable {K : PySem.W.Frag} {H H' : Hp}
theorem SqA.same {p : Addr} {xs : List V} (e : Same H H') (h : SqA K H p xs) : SqA K H' p xs := h.imp (Same.seq e) (Same.sqT e)
theorem Yd.same {y : Addr} {rows : List (List (Option Int))} (e : Same H H') (h : Yd K H y rows) : Yd K H' y rows := by
  obtain ⟨dx, t, as, ⟨rk, h1⟩, h2, h3, h4, h5, h6, h7⟩ := h
  exact ⟨dx, t, as, ⟨rk, e _ _ h1⟩, Same.sqT e h2, h3, h4, h5, fun i a r q1 q2 => Same.sqT e (h6 i a r q1 q2), h7⟩
theorem Is.same {x : V} {a : Ty} (e : Same H H') (h : Is K H x a) : Is K H' x a := by
  have key : ∀ t, TyX K H x t → TyX K H' x t := by
    intro t h
    cases h with
    | base b =>
      refine .base ?_
      cases b with
      | non => exact .non
      | bl b => exact .bl b
      | int i => exact .int i
      | str z => exact .str z
      | flt z => exact .flt z
      | lst q => exact .lst (e _ _ q)
      | frz q => exact .frz (e _ _ q)
      | tup q => exact .tup (e _ _ q)
      | dK q => exact .dK (e _ _ q)
      | dT q => exact .dT (e _ _ q)
      | ins q a b c d f => exact .ins (e _ _ q) a b c d f
    | byt b => exact .byt b
    | set q => exact .set (e _ _ q)
    | kList q c => exact .kList q c
    | kTuple q c => exact .kTuple q c
    | kDict q c => exact .kDict q c
    | fTuple q => exact .fTuple (e _ _ q)
    | fDict q => exact .fDict (e _ _ q)
  exact key _ h
end
/-- an exception c with the value v, from any later heap -/
def Rz (K : PySem.W.Frag) (c f : Str) (v : V) (H : Hp) (E : XK) : Prop := ∀ d H', Same H H' → H' d = none → E (.ref (He.ga K c)) (some d) (upd H' d (.xd [(f, v)]))
theorem Rz.same {K : PySem.W.Frag} {c f : Str} {v : V} {H H' : Hp} {E : XK} (e : Same H H') (h : Rz K c f v H E) : Rz K c f v H' E := fun d H2 s n => h d H2 (e.trans s) n
/-- raise C(x), x the i-th name -/
theorem rse_var {K : PySem.W.Frag} {c f : Str} {E : XK} {i : Nat} {v : V} {σ : L2.St} {H : Hp} {D : Ends} (hv : σ[i]? = some (some v)) (h : Rz K c f v H E) : tRse K c f E (tCons (tVar i) tNil) D σ H :=
  ⟨v, hv, rse_of fun d hd => h d H (Same.refl H) hd⟩

/-! ### what the small judges answer -/
def isPl : V → Bool
  | .str z => decide (z = "a") || decide (z = "b") || decide (z = "c")
  | _ => false
def wayL : List Str := ["ab", "ac", "ba", "bc", "ca", "cb"]
def isWy : V → Bool
  | .str z => decide (z ∈ wayL)
  | _ => false
def isI : V → Bool
  | .int _ => true
  | _ => false
def isIn (x : V) (l h : Int) : Bool := match x with
  | .int i => decide (l ≤ i) && decide (i ≤ h)
  | _ => false
def isPr : V → Bool
  | .int i => decide (0 < i)
  | _ => false
def isPB : V → Bool
  | .non => true
  | .int i => decide (0 < i)
  | _ => false
def sp_is_way (K : PySem.W.Frag) : Sp := sp1 fun x H Q _ => ∃ a, Is K H x a ∧ Q (.bl (isWy x)) H
def sp_is_integer (K : PySem.W.Frag) : Sp := sp1 fun x H Q _ => ∃ a, Is K H x a ∧ Q (.bl (isI x)) H
def sp_is_price (K : PySem.W.Frag) : Sp := sp1 fun x H Q _ => ∃ a, Is K H x a ∧ Q (.bl (isPr x)) H
def sp_check_way (K : PySem.W.Frag) : Sp := sp1 fun x H Q E => ∃ a, Is K H x a ∧ (isWy x = true → Q .non H) ∧ (isWy x = false → Rz K "InvalidWay" "value" x H E)
def sp_check_yard (K : PySem.W.Frag) : Sp := sp1 fun x H Q E => ∃ a, Is K H x a ∧ (a = .yard → Q .non H) ∧ (a ≠ .yard → Rz K "InvalidYard" "value" x H E)
def sp_Yard_len (K : PySem.W.Frag) : Sp := sp1 fun x H Q _ => ∃ y rows, x = .ref y ∧ Yd K H y rows ∧ Q (.int (rows.length : Int)) H
/-- the tuple of a yard's rows -/
def Ys (K : PySem.W.Frag) (H : Hp) (t : Addr) (rows : List (List (Option Int))) : Prop := ∃ as : List Addr, SqT K H t (as.map V.ref) ∧ as.length = rows.length ∧ ∀ (i : Nat) (a : Addr) (r : List (Option Int)), as[i]? = some a → rows[i]? = some r → SqT K H a (r.map pV)
def t_is_way (K : PySem.W.Frag) (E : XK) : TS := (tRet (tAndV (tCB (uIsi K) (tCons (tVar 0) (tCons (tC (.ty "str")) tNil))) (tOp (uIn K false) (tVar 0) (tC (.ref (He.ga K "WAYS"))))))
def t_is_integer (K : PySem.W.Frag) (E : XK) : TS := (tRet (tAndV (tCB (uIsi K) (tCons (tVar 0) (tCons (tC (.ty "int")) tNil))) (tNotV (tCB (uIsi K) (tCons (tVar 0) (tCons (tC (.ty "bool")) tNil))))))
def t_is_price (K : PySem.W.Frag) (E : XK) : TS := (tRet (tAndV (tFn (sp_is_integer K) E (tCons (tVar 0) tNil)) (tOp uGt (tVar 0) (tC (.int 0)))))
def t_check_way (K : PySem.W.Frag) (E : XK) : TS := (tIfS (tNot (tB (tFn (sp_is_way K) E (tCons (tVar 0) tNil)))) (tRse K "InvalidWay" "value" E (tCons (tVar 0) tNil)) tNext)
def t_check_yard (K : PySem.W.Frag) (E : XK) : TS := (tIfS (tNot (tB (tCB (uIsi K) (tCons (tVar 0) (tCons (tC (.ref (He.ga K "Yard"))) tNil))))) (tRse K "InvalidYard" "value" E (tCons (tVar 0) tNil)) tNext)
def t_Yard_len (K : PySem.W.Frag) (E : XK) : TS := (tRet (tCB (uLen K) (tCons (tFld K (tVar 0) "_rows") tNil)))
section
variable {K : PySem.W.Frag} (F : KF K) {vs : List V} {H : Hp} {Q : VK} {E : XK}
theorem isi_ty {x : V} {a b : Ty} {T : String} (F : KF K) (hT : b.v K = .type T) (h : Is K H x a) (q : Q (.bl (a.sub b)) H) : uIsi K [x, .ty T] H Q := by
  have k := F.kit a b
  rw [hT] at k
  exact ⟨a.v K, a.sub b, h, k, q⟩
theorem Is.of_str {z : Str} {a : Ty} (h : Is K H (.str z) a) : a = .str := by
  have key : ∀ t, TyX K H (.str z) t → t = a.v K → a = .str := by
    intro t h e
    cases h with
    | base b =>
      cases b
      cases a <;> first | rfl | (injection e with e; exact absurd e (by decide)) | cases e
  exact key _ h rfl
theorem Is.of_int {z : Int} {a : Ty} (h : Is K H (.int z) a) : a = .int := by
  have key : ∀ t, TyX K H (.int z) t → t = a.v K → a = .int := by
    intro t h e
    cases h with
    | base b =>
      cases b
      cases a <;> first | rfl | (injection e with e; exact absurd e (by decide)) | cases e
  exact key _ h rfl
theorem Is.of_bl {z : Bool} {a : Ty} (h : Is K H (.bl z) a) : a = .bl := by
  have key : ∀ t, TyX K H (.bl z) t → t = a.v K → a = .bl := by
    intro t h e
    cases h with
    | base b =>
      cases b
      cases a <;> first | rfl | (injection e with e; exact absurd e (by decide)) | cases e
  exact key _ h rfl
/-! one step of a reading -/
local macro_rules | `(tactic| walk_at "w") => `(tactic| simp only [tRet, tAndV, tOrV, tNotV, tCB, tCons, tVar, tNil, tC, tOp, tSeq, tAsg, gName, tIfS, tDrop, tFn, tTup, tLst, tNext, tB, tTest, tNot, tAnd, tOr, tIf, tChain, tUn, rU, tFld,
  L2.start, List.map_cons, List.map_nil, List.length_cons, List.length_nil, List.replicate_succ, List.replicate_zero, List.append_nil, List.nil_append, List.cons_append, List.singleton_append, Nat.sub_self, Nat.zero_add, Nat.reduceAdd, Nat.reduceSub,
  List.getElem?_cons_zero, List.getElem?_cons_succ, List.set_cons_zero, List.set_cons_succ, Option.some.injEq, exists_eq_left, exists_eq_left', V.int.injEq, V.bl.injEq, V.str.injEq, V.ref.injEq,
  uAdd, uSub, uMul, uDiv, uMod, uPow, uCmp, uLt, uLe, uGt, uGe, uIs, uNis, sp1, sp2, sp3, sp4])

theorem in_ways {z : Str} : inV (.str z) [.str "ab", .str "ac", .str "ba", .str "bc", .str "ca", .str "cb"] = isWy (.str z) := by
  show (wayL.map V.str).any (fun y => eqV y (.str z)) = decide (z ∈ wayL)
  rw [List.any_map, Bool.eq_iff_iff, List.any_eq_true, decide_eq_true_iff]
  constructor
  · rintro ⟨w, h1, h2⟩
    have : w = z := of_decide_eq_true h2
    exact this ▸ h1
  · intro h
    exact ⟨z, h, decide_eq_true rfl⟩
include F in
theorem read_is_way (h : sp_is_way K vs H Q E) : t_is_way K E { nx := fun _ H' => Q .non H', rt := Q } (start ["value"] vs) H := by
  match vs, h with
  | [x], ⟨a, ha, q⟩ =>
    unfold t_is_way
    walk_at "w"
    refine isi_ty (b := .str) F rfl ha ?_
    walk_at "w"
    by_cases e : a = .str
    · subst e
      obtain ⟨z, rfl⟩ := ha.str_inv
      simp only [Ty.sub, decide_true, Bool.true_or, if_true]
      exact ⟨_, _, rfl, .inr (F.ways H), rfl, rfl, by simpa [in_ways] using q⟩
    · rw [if_neg (by simp [Ty.sub, e])]
      have : isWy x = false := by cases x <;> first | rfl | exact absurd ha.of_str e
      rwa [this] at q
theorem isI_of {x : V} {a : Ty} (ha : Is K H x a) : isI x = (a.sub .int && !a.sub .bl) := by
  cases x with
  | int i => rw [ha.of_int]; rfl
  | bl b => rw [ha.of_bl]; rfl
  | _ =>
    have h1 : a ≠ .int := by
      rintro rfl
      obtain ⟨i, e⟩ := ha.int_inv
      cases e
    have h2 : a ≠ .bl := by
      rintro rfl
      obtain ⟨i, e⟩ := ha.bl_inv
      cases e
    simp [isI, Ty.sub, h1, h2]
include F in
theorem read_is_integer (h : sp_is_integer K vs H Q E) : t_is_integer K E { nx := fun _ H' => Q .non H', rt := Q } (start ["value"] vs) H := by
  match vs, h with
  | [x], ⟨a, ha, q⟩ =>
    unfold t_is_integer
    rw [isI_of ha] at q
    walk_at "w"
    refine isi_ty (b := .int) F rfl ha ?_
    walk_at "w"
    cases e : a.sub .int with
    | false => simpa [e] using q
    | true =>
      simp only [if_true]
      refine isi_ty (b := .bl) F rfl ha ?_
      simpa [e, TruV] using q
include F in
theorem read_is_price (h : sp_is_price K vs H Q E) : t_is_price K E { nx := fun _ H' => Q .non H', rt := Q } (start ["value"] vs) H := by
  match vs, h with
  | [x], ⟨a, ha, q⟩ =>
    unfold t_is_price sp_is_integer
    walk_at "w"
    refine ⟨a, ha, ?_⟩
    cases x with
    | int i => simpa [isI, isPr] using q
    | _ => simpa [isI, isPr] using q
include F in
theorem read_check_way (h : sp_check_way K vs H Q E) : t_check_way K E { nx := fun _ H' => Q .non H', rt := Q } (start ["way"] vs) H := by
  match vs, h with
  | [x], ⟨a, ha, q1, q2⟩ =>
    unfold t_check_way sp_is_way
    walk_at "w"
    refine ⟨a, ha, ?_⟩
    cases e : isWy x with
    | true => exact q1 e
    | false => exact rse_var (K := K) (c := "InvalidWay") (f := "value") (E := E) (σ := [some x]) (i := 0) (D := { nx := fun _ H' => Q .non H', rt := Q }) rfl (q2 e)
include F in
theorem read_check_yard (h : sp_check_yard K vs H Q E) : t_check_yard K E { nx := fun _ H' => Q .non H', rt := Q } (start ["yard"] vs) H := by
  match vs, h with
  | [x], ⟨a, ha, q1, q2⟩ =>
    unfold t_check_yard
    walk_at "w"
    refine .inl ⟨a.v K, a.sub .yard, ha, F.kit a .yard, _, rfl, ?_⟩
    cases e : a.sub .yard with
    | true => exact q1 (by cases a <;> first | rfl | cases e)
    | false =>
      refine rse_var (K := K) (c := "InvalidYard") (f := "value") (E := E) (σ := [some x]) (i := 0) (D := { nx := fun _ H' => Q .non H', rt := Q }) rfl (q2 ?_)
      rintro rfl
      cases e
include F in
theorem read_Yard_len (h : sp_Yard_len K vs H Q E) : t_Yard_len K E { nx := fun _ H' => Q .non H', rt := Q } (start ["self"] vs) H := by
  match vs, h with
  | [_], ⟨y, rows, rfl, ⟨dx, t, as, ⟨rk, h1⟩, h2, h3, h4, h5, h6⟩, q⟩ =>
    unfold t_Yard_len
    walk_at "w"
    refine ⟨y, _, _, _, .ref t, rfl, h1, F.cl, F.na, rfl, ?_⟩
    refine ⟨_, .inr h2, ?_⟩
    rw [List.length_map, h3]
    exact q
end
end U
namespace U
open PySem PySem.Spec PyProof.Rows L2

/-! ### heaps that keep all but one -/
def Off (D : Addr) (H H' : Hp) : Prop := ∀ b o, b ≠ D → H b = some o → H' b = some o
section
variable {K : PySem.W.Frag} {H H' H2 : Hp} {D a p : Addr} {xs l : List V} {o : HO}
theorem Off.refl : Off D H H := fun _ _ _ h => h
theorem Same.off (h : Same H H') : Off D H H' := fun b o _ e => h b o e
theorem Off.trans (h : Off D H H') (g : Off D H' H2) : Off D H H2 := fun b o n e => g b o n (h b o n e)
theorem off_upd : Off D H (upd H D o) := fun b u n e => by rw [upd_ne n]; exact e
theorem Off.same (h : Off D H H') (n : H D = none) : Same H H' := fun b o e => h b o (ne_of_none e n) e
theorem Off.sqT (h : Off D H H') (hD : H D = some (.lst l)) (q : SqT K H a xs) : SqT K H' a xs := by
  rcases q with (q | ⟨o, q⟩) | q
  · exact .inl (.inl (h _ _ (by rintro rfl; rw [hD] at q; cases q) q))
  · exact .inl (.inr ⟨o, h _ _ (by rintro rfl; rw [hD] at q; cases q) q⟩)
  · exact .inr q
theorem Off.yd {y : Addr} {rows : List (List (Option Int))} (e : Off D H H') (hD : H D = some (.lst l)) (h : Yd K H y rows) : Yd K H' y rows := by
  obtain ⟨dx, t, as, ⟨rk, h1⟩, h2, h3, h4, h5, h6, h7⟩ := h
  exact ⟨dx, t, as, ⟨rk, e _ _ (by rintro rfl; rw [hD] at h1; cases h1) h1⟩, e.sqT hD h2, h3, h4, h5, fun i a r q1 q2 => e.sqT hD (h6 i a r q1 q2), h7⟩
end
/-! ### what is walked without a change of the heap -/
structure Plain (J : It) (xs : List V) (G : Hp → Prop) : Prop where
  go : ∀ i H, G H → i < xs.length → J.go i H
  yld : ∀ i H x H', G H → J.yld i H x H' → H' = H ∧ (i < xs.length → xs[i]? = some x)
  stop : ∀ i H, G H → i = xs.length → J.stop i H
section
variable {K : PySem.W.Frag} {a : Addr} {xs : List V}
theorem plain_L : Plain (Itl K a) xs fun H => SqL K H a xs :=
  ⟨fun i H h lt => ⟨xs, xs[i], h, List.getElem?_eq_getElem lt⟩, fun i H x H' h ⟨e, q⟩ => ⟨e, fun _ => q xs h⟩, fun i H h e => ⟨xs, h, Nat.le_of_eq e.symm⟩⟩
theorem plain_T : Plain (Itt K a) xs fun H => SqT K H a xs :=
  ⟨fun i H h lt => ⟨xs, xs[i], h, List.getElem?_eq_getElem lt⟩, fun i H x H' h ⟨e, q⟩ => ⟨e, fun _ => q xs h⟩, fun i H h e => ⟨xs, h, Nat.le_of_eq e.symm⟩⟩
theorem strL_len (z : Str) : (strL z).length = z.cps.size := by simp [strL]
theorem plain_S {z : Str} : Plain (Its z) (strL z) fun _ => True :=
  ⟨fun i H h lt => by rw [strL_len] at lt; exact lt, fun i H x H' h ⟨e, c, q1, q2⟩ => ⟨e, fun _ => by
    subst q2
    unfold strL
    rw [List.getElem?_map, Array.getElem?_toList, q1]
    rfl⟩, fun i H h e => by rw [strL_len] at e; exact Nat.le_of_eq e.symm⟩
def intsL (lo : Int) (n : Nat) : List V := (List.range n).map fun (i : Nat) => V.int (lo + (i : Int))
theorem plain_R {lo : Int} {n : Nat} : Plain (Itr lo n) (intsL lo n) fun _ => True :=
  ⟨fun i H h lt => by
    have lt : i < n := by simpa [intsL] using lt
    exact lt, fun i H x H' h ⟨e, q2⟩ => ⟨e, fun lt => by
    subst q2
    have lt : i < n := by simpa [intsL] using lt
    simp [intsL, lt]⟩, fun i H h e => by
    have : i = n := by simpa [intsL] using e
    exact Nat.le_of_eq this.symm⟩
/-- the ends of a loop's body: N behind it -/
abbrev turnE (D : Ends) (N : L2.St → Hp → Prop) : Ends := { D with nx := N, ct := N, bk := D.nx }
theorem for_plain {J : It} {G : Hp → Prop} (P : Plain J xs G) {wi : TI} {g : TG} {tb : TS} {D : Ends} {σ : L2.St} {H : Hp} (hw : ∀ R : It → Hp → Prop, R J H → wi σ H R) (Pv : Nat → L2.St → Hp → Prop) (h0 : Pv 0 σ H) (hG : ∀ i σ H, Pv i σ H → G H)
    (hs : ∀ i x τ H, xs[i]? = some x → Pv i τ H → g x τ H fun ρ H2 => tb (turnE D (Pv (i + 1))) ρ H2) (hd : ∀ τ H, Pv xs.length τ H → D.nx τ H) : tFor wi g tb D σ H := by
  refine hw _ ?_
  have start0 : xs.length = xs.length - 0 ∧ 0 ≤ xs.length ∧ Pv 0 σ H := ⟨rfl, Nat.zero_le _, h0⟩
  refine ⟨fun i m τ H => m = xs.length - i ∧ i ≤ xs.length ∧ Pv i τ H, ⟨_, start0⟩, ?_⟩
  rintro i m σ H ⟨rfl, hi, p⟩
  have q := hG i σ H p
  by_cases hlt : i < xs.length
  · refine .inr ⟨P.go i H q hlt, Pv (i + 1), fun σ' H' p' => ⟨xs.length - (i + 1), by omega, rfl, hlt, p'⟩, fun x H' y => ?_⟩
    obtain ⟨rfl, hx⟩ := P.yld i H x H' q y
    exact hs i x σ H' (hx hlt) p
  · have atEnd : i = xs.length := Nat.le_antisymm hi (Nat.le_of_not_lt hlt)
    exact .inl ⟨P.stop i H q atEnd, hd σ H (atEnd ▸ p)⟩
theorem it_plain {J : It} {G : Hp → Prop} (P : Plain J xs G) {B : V → Hp → (Hp → Prop) → Prop} {H0 : Hp} {fin : Hp → Prop} (Pv : Nat → Hp → Prop) (h0 : Pv 0 H0) (hG : ∀ i H, Pv i H → G H)
    (hs : ∀ i x H, xs[i]? = some x → Pv i H → B x H (Pv (i + 1))) (hd : ∀ H, Pv xs.length H → fin H) : Laps J H0 fin B := by
  have start0 : xs.length = xs.length - 0 ∧ 0 ≤ xs.length ∧ Pv 0 H0 := ⟨rfl, Nat.zero_le _, h0⟩
  refine ⟨fun i m H => m = xs.length - i ∧ i ≤ xs.length ∧ Pv i H, ⟨_, start0⟩, ?_⟩
  rintro i m H ⟨rfl, hi, p⟩
  have q := hG i H p
  by_cases hlt : i < xs.length
  · refine .inr ⟨P.go i H q hlt, Pv (i + 1), fun H' p' => ⟨xs.length - (i + 1), by omega, rfl, hlt, p'⟩, fun x H' y => ?_⟩
    obtain ⟨rfl, hx⟩ := P.yld i H x H' q y
    exact hs i x H' (hx hlt) p
  · have atEnd : i = xs.length := Nat.le_antisymm hi (Nat.le_of_not_lt hlt)
    exact .inl ⟨P.stop i H q atEnd, hd H (atEnd ▸ p)⟩
theorem lc_plain {J : It} {G : Hp → Prop} (P : Plain J xs G) {g : TG} {tt : TT} {te : TE} {vs : List Nat} {σ : L2.St} {H1 : Hp} {D : Addr} {Qd : Hp → Prop} (Pv : Nat → Hp → Prop) (h0 : Pv 0 (upd H1 D (.lst []))) (hG : ∀ i H, Pv i H → G H)
    (hs : ∀ i x H, xs[i]? = some x → Pv i H → lcT g tt te vs σ D (Pv (i + 1)) x H) (hd : ∀ H, Pv xs.length H → Qd H) : LcB J g tt te vs σ H1 D Qd :=
  it_plain P Pv h0 hG hs hd
/-- [te for name j in ..], whose turns only make new things -/
theorem lc_grow {J : It} {G : Hp → Prop} (P : Plain J xs G) {te : TE} {j : Nat} {σ : L2.St} {H1 : Hp} {D : Addr} {Qd : Hp → Prop} (R : List V → Hp → Prop) (hD : H1 D = none) (hlen : xs.length ≤ sizeLine)
    (hG : ∀ H, Same H1 H → G H) (h0 : ∀ H, Same H1 H → R [] H) (hup : ∀ acc l H H', H D = some (.lst l) → Off D H H' → R acc H → R acc H')
    (hs : ∀ i x acc H (Q : VK), xs[i]? = some x → Same H1 H → acc.length = i → R acc H → (∀ y H4, Same H H4 → R (acc ++ [y]) H4 → Q y H4) → te (σ.set j (some x)) H Q)
    (hd : ∀ acc H, acc.length = xs.length → Same H1 H → H D = some (.lst acc) → R acc H → Qd H) : LcB J (gName j) tYes te [j] σ H1 D Qd := by
  refine lc_plain P (fun i H => ∃ acc, acc.length = i ∧ H D = some (.lst acc) ∧ Same H1 H ∧ R acc H) ⟨[], rfl, upd_same, same_new hD, h0 _ (same_new hD)⟩ (fun i H ⟨_, _, _, s, _⟩ => hG H s) ?_ (fun H ⟨acc, h1, h2, h3, h4⟩ => hd acc H h1 h3 h2 h4)
  rintro i x H hx ⟨acc, h1, h2, h3, h4⟩
  show wipe _ [j] = wipe σ [j] ∧ _
  refine ⟨by simp only [wipe, List.set_set], ?_⟩
  show te ((σ.set j none).set j (some x)) H _
  rw [List.set_set]
  have lt : i < xs.length := by
    rcases Nat.lt_or_ge i xs.length with q | q
    · exact q
    · rw [List.getElem?_eq_none q] at hx; cases hx
  refine hs i x acc H _ hx h3 h1 h4 fun y H4 s r => ⟨acc, s _ _ h2, by omega, acc ++ [y], by simp [h1], upd_same, ?_, ?_⟩
  · exact (Off.trans (Same.off (h3.trans s)) off_upd).same hD
  · exact hup _ acc _ _ (s _ _ h2) off_upd r
theorem for_rng1 {ta : TA} {g : TG} {tb : TS} {D : Ends} {σ : L2.St} {H : Hp} {n : Nat} (h : ∀ R : List V → Hp → Prop, R [.int n] H → ta σ H R) (hn : n ≤ 1000000000) (Pv : Nat → L2.St → Hp → Prop) (h0 : Pv 0 σ H)
    (hs : ∀ (i : Nat) σ H, i < n → Pv i σ H → g (.int i) σ H fun σ2 H2 => tb (turnE D (Pv (i + 1))) σ2 H2) (hd : ∀ σ H, Pv n σ H → D.nx σ H) : tFor (iRng1 ta) g tb D σ H := by
  have e : (intsL 0 n).length = n := by simp [intsL]
  have hw : ∀ R : It → Hp → Prop, R (Itr 0 n) H → iRng1 ta σ H R := fun R r => h _ ⟨_, rfl, by omega, by omega, by rw [Int.toNat_natCast]; exact r⟩
  refine for_plain plain_R hw Pv h0 (fun _ _ _ _ => trivial) (fun i x σ H hx p => ?_) (by rw [e]; exact hd)
  have lt : i < n := e ▸ (List.getElem?_eq_some_iff.mp hx).1
  have : x = .int i := by
    simp [intsL, lt] at hx
    exact hx.symm
  subst this
  exact hs i σ H lt p
end
end U
namespace U
open PySem PySem.Spec PyProof.Rows L2

theorem take_snoc {α : Type} (f : α → V) {acc : List V} {bs : List α} {i : Nat} {c : α} (ha : acc = (bs.take acc.length).map f) (hl : acc.length = i) (hc : bs[i]? = some c) : acc ++ [f c] = (bs.take (acc ++ [f c]).length).map f := by
  subst hl
  rw [List.length_append, List.length_singleton, List.take_succ, List.map_append, ← ha, hc]
  rfl
/-! ### rows of prices -/
def RowB (K : PySem.W.Frag) (H : Hp) (x : V) (b : Bool) : Prop := (∃ a, Is K H x a ∧ a ≠ .lst ∧ a ≠ .tup ∧ b = false) ∨
  ∃ p xs, x = .ref p ∧ SqA K H p xs ∧ (∀ v ∈ xs, ∃ a, Is K H v a) ∧ b = (decide (xs.length = 6) && xs.all isPB)
def RowsB (K : PySem.W.Frag) (H : Hp) (x : V) (b : Bool) : Prop := (∃ a, Is K H x a ∧ a ≠ .lst ∧ a ≠ .tup ∧ b = false) ∨
  ∃ (p : Addr) (xs : List V) (bs : List Bool), x = .ref p ∧ SqA K H p xs ∧ bs.length = xs.length ∧ (∀ (i : Nat) (v : V) (c : Bool), xs[i]? = some v → bs[i]? = some c → RowB K H v c) ∧ b = (decide (1 ≤ xs.length) && (decide (xs.length ≤ 60) && bs.all id))
section
variable {K : PySem.W.Frag} {H H' : Hp} {x : V} {b : Bool}
theorem RowB.same (e : Same H H') (h : RowB K H x b) : RowB K H' x b := by
  rcases h with ⟨a, h, r⟩ | ⟨p, xs, r, h, g, q⟩
  · exact .inl ⟨a, h.same e, r⟩
  · exact .inr ⟨p, xs, r, h.same e, fun v m => by
      obtain ⟨a, z⟩ := g v m
      exact ⟨a, z.same e⟩, q⟩
theorem RowsB.same (e : Same H H') (h : RowsB K H x b) : RowsB K H' x b := by
  rcases h with ⟨a, h, r⟩ | ⟨p, xs, bs, r, h, g, z, q⟩
  · exact .inl ⟨a, h.same e, r⟩
  · exact .inr ⟨p, xs, bs, r, h.same e, g, fun i v c h1 h2 => (z i v c h1 h2).same e, q⟩
theorem SqA.kind {p : Addr} {xs : List V} (h : SqA K H p xs) : ∃ a, Is K H (.ref p) a ∧ (a.sub .lst || a.sub .tup) = true := by
  rcases h with h | h
  · exact ⟨.lst, is_sqL h, rfl⟩
  · exact ⟨.tup, is_sqT h, rfl⟩
theorem isi_seq (F : KF K) {a : Ty} {p : Addr} {Q : VK} (hp : H p = some (.tup [.ty "list", .ty "tuple"])) (h : Is K H x a) (q : Q (.bl (a.sub .lst || a.sub .tup)) H) : uIsi K [x, .ref p] H Q := by
  refine .inr ⟨_, [.type "list", .type "tuple"], a.v K, _, hp, .cons (.ty _) (.cons (.ty _) .nil), h, ?_, q⟩
  show PySem.W.kitAny K (a.v K) [Ty.v K .lst, Ty.v K .tup] = _
  unfold PySem.W.kitAny
  rw [F.kit a .lst]
  cases a.sub .lst with
  | true => rfl
  | false =>
    show PySem.W.kitAny K (a.v K) [Ty.v K .tup] = _
    unfold PySem.W.kitAny
    rw [F.kit a .tup]
    cases a.sub .tup <;> rfl
theorem uLen_seq {p : Addr} {xs : List V} {Q : VK} (h : SqA K H p xs) (q : Q (.int xs.length) H) : uLen K [.ref p] H Q := ⟨xs, h, q⟩
theorem uEq_int {i j : Int} {Q : VK} : uEq K (.int i) (.int j) H Q = Q (.bl (decide (i = j))) H := rfl
theorem uEq_str {i j : Str} {Q : VK} : uEq K (.str i) (.str j) H Q = Q (.bl (decide (i = j))) H := rfl
theorem uNe_int {i j : Int} {Q : VK} : uNe K (.int i) (.int j) H Q = Q (.bl (!decide (i = j))) H := rfl
theorem uNe_str {i j : Str} {Q : VK} : uNe K (.str i) (.str j) H Q = Q (.bl (!decide (i = j))) H := rfl
theorem uAdd_int {i j : Int} {Q : VK} : uAdd (.int i) (.int j) H Q = Q (.int (i + j)) H := rfl
theorem uSub_int {i j : Int} {Q : VK} : uSub (.int i) (.int j) H Q = Q (.int (i - j)) H := rfl
theorem uMul_int {i j : Int} {Q : VK} : uMul (.int i) (.int j) H Q = (CMul i j ∧ Q (.int (i * j)) H) := rfl
theorem uDiv_int {i j : Int} {Q : VK} : uDiv (.int i) (.int j) H Q = (CDivW i j ∧ Q (.int (i / j)) H) := rfl
theorem uMod_int {i j : Int} {Q : VK} : uMod (.int i) (.int j) H Q = (0 < j ∧ Q (.int (i % j)) H) := rfl
theorem uPow_int {i j : Int} {Q : VK} : uPow (.int i) (.int j) H Q = (CPow i j ∧ Q (.int (i ^ j.toNat)) H) := rfl
theorem uLt_int {i j : Int} {Q : VK} : uLt (.int i) (.int j) H Q = Q (.bl (decide (i < j))) H := rfl
theorem uLe_int {i j : Int} {Q : VK} : uLe (.int i) (.int j) H Q = Q (.bl (decide (i ≤ j))) H := rfl
theorem uGt_int {i j : Int} {Q : VK} : uGt (.int i) (.int j) H Q = Q (.bl (decide (j < i))) H := rfl
theorem uGe_int {i j : Int} {Q : VK} : uGe (.int i) (.int j) H Q = Q (.bl (decide (j ≤ i))) H := rfl
theorem uAdd_str {i j : Str} {Q : VK} : uAdd (.str i) (.str j) H Q = (i.length + j.length ≤ sizeLine ∧ Q (.str (i ++ j)) H) := rfl
theorem uMul_str {i : Str} {n : Int} {Q : VK} : uMul (.str i) (.int n) H Q = (0 ≤ n ∧ n ≤ 1000 ∧ i.length ≤ 10000 ∧ Q (.str (Txt.mul i n)) H) := rfl
theorem uIs_non {Q : VK} : uIs x .non H Q = Q (.bl (decide (x = .non))) H := rfl
theorem uNis_non {Q : VK} : uNis x .non H Q = Q (.bl (!decide (x = .non))) H := rfl
theorem uIs_bl {a c : Bool} {Q : VK} : uIs (.bl a) (.bl c) H Q = Q (.bl (decide (a = c))) H := rfl
theorem uNis_bl {a c : Bool} {Q : VK} : uNis (.bl a) (.bl c) H Q = Q (.bl (!decide (a = c))) H := rfl
theorem uSl_str {z : Str} {lo hi : Option Int} {Q : VK} : uSl K (.str z) lo hi H Q = (z.length ≤ sizeLine ∧ Q (.str (cutS z lo hi)) H) := rfl
theorem uLen_str {z : Str} {Q : VK} : uLen K [.str z] H Q = (z.length ≤ sizeLine ∧ Q (.int z.length) H) := rfl
theorem seq_ {a b : TS} {D : Ends} {σ : L2.St} {H : Hp} (h : a { D with nx := b D } σ H) : tSeq a b D σ H := h
theorem tVar_eq {i : Nat} {σ : L2.St} {v : V} (h : σ[i]? = some (some v)) (Q : VK) : tVar i σ H Q = Q v H := by
  unfold tVar
  simp [h]
theorem tLc_str {t : TE} {σ : L2.St} {g : TG} {tt : TT} {te : TE} {vs : List Nat} {Q : VK} {z : Str} (ht : ∀ Q, t σ H Q = Q (.str z) H) (hc : ∀ D, H D = none → LcB (Its z) g tt te vs σ H D (Q (.ref D))) : tLc (iStr t) g tt te vs σ H Q := by
  show t σ H _
  rw [ht]
  exact ⟨z, rfl, hc⟩
theorem tLc_seq {t : TE} {σ : L2.St} {g : TG} {tt : TT} {te : TE} {vs : List Nat} {Q : VK} {p : Addr} {xs : List V} (h : SqA K H p xs) (ht : ∀ Q, t σ H Q = Q (.ref p) H)
    (hc : ∀ (J : It) (G : Hp → Prop), Plain J xs G → (∀ H', Same H H' → G H') → ∀ D, H D = none → LcB J g tt te vs σ H D (Q (.ref D))) : tLc (iSeq K t) g tt te vs σ H Q := by
  rcases h with h | h
  · refine .inl ?_
    show t σ H _
    rw [ht]
    exact ⟨p, rfl, ⟨xs, h⟩, hc _ _ plain_L fun H' e => Same.seq e h⟩
  · refine .inr ?_
    show t σ H _
    rw [ht]
    exact ⟨p, rfl, ⟨xs, h⟩, hc _ _ plain_T fun H' e => Same.sqT e h⟩
end
def sp__is_price_row (K : PySem.W.Frag) : Sp := sp1 fun x H Q _ => ∃ b, RowB K H x b ∧ ∀ H', Same H H' → Q (.bl b) H'
def sp__are_rows (K : PySem.W.Frag) : Sp := sp1 fun x H Q _ => ∃ b, RowsB K H x b ∧ ∀ H', Same H H' → Q (.bl b) H'
def t__is_price_row (K : PySem.W.Frag) (E : XK) : TS := (tRet (tAndV (tCB (uIsi K) (tCons (tVar 0) (tCons (tTup (tCons (tC (.ty "list")) (tCons (tC (.ty "tuple")) tNil))) tNil))) (tAndV (tOp (uEq K) (tCB (uLen K) (tCons (tVar 0) tNil)) (tCB (uLen K) (tCons (tC (.ref (He.ga K "WAYS"))) tNil))) (tCB (rAll K) (tCons (tLc (iSeq K (tVar 0)) (gName 1) tYes (tOrV (tOp uIs (tVar 1) (tC .non)) (tFn (sp_is_price K) E0 (tCons (tVar 1) tNil))) [1]) tNil)))))
def t__are_rows (K : PySem.W.Frag) (E : XK) : TS := (tRet (tAndV (tCB (uIsi K) (tCons (tVar 0) (tCons (tTup (tCons (tC (.ty "list")) (tCons (tC (.ty "tuple")) tNil))) tNil))) (tAndV (tChain uLe uLe (tC (.int 1)) (tCB (uLen K) (tCons (tVar 0) tNil)) (tC (.int 60))) (tCB (rAll K) (tCons (tLc (iSeq K (tVar 0)) (gName 1) tYes (tFn (sp__is_price_row K) E0 (tCons (tVar 1) tNil)) [1]) tNil)))))
section
variable {K : PySem.W.Frag} (F : KF K) {vs : List V} {H : Hp} {Q : VK} {E : XK}
local macro_rules | `(tactic| walk_at "w") => `(tactic| try simp only [turnE, lcT, Snoc, tRet, tRetN, tAndV, tOrV, tNotV, tCB, tCons, tVar, tNil, tC, tOp, tSeq, tAsg, gName, gSub, tIfS, tDrop, tFn, tTup, tLst, tNext, tB, tTest, tNot, tAnd, tOr, tIf, tChain, tUn, rU, tFld, tPart, tNoPart, L2.tSl, tBM, tPar, tPar3, tTruth, tDNewK,
  L2.start, List.map_cons, List.map_nil, List.length_cons, List.length_nil, List.replicate_succ, List.replicate_zero, List.append_nil, List.nil_append, List.cons_append, List.singleton_append, Nat.sub_self, Nat.zero_add, Nat.reduceAdd, Nat.reduceSub,
  List.getElem?_cons_zero, List.getElem?_cons_succ, List.set_cons_zero, List.set_cons_succ, Option.some.injEq, exists_eq_left, exists_eq_left', V.int.injEq, V.bl.injEq, V.str.injEq, V.ref.injEq,
  uAdd_int, uAdd_str, uSub_int, uMul_int, uMul_str, uDiv_int, uMod_int, uPow_int, uLt_int, uLe_int, uGt_int, uGe_int, uIs_non, uNis_non, uIs_bl, uNis_bl, sp1, sp2, sp3, sp4, uEq_int, uEq_str, uNe_int, uNe_str, uSl_str, uLen_str, decide_eq_true_eq])
local macro_rules | `(tactic| walk_at "1") => `(tactic| try simp only [turnE, lcT, Snoc, tRet, tRetN, tAndV, tOrV, tNotV, tCB, tCons, tVar, tNil, tC, tOp, tAsg, gName, gSub, tIfS, tDrop, tFn, tTup, tLst, tNext, tB, tTest, tNot, tAnd, tOr, tIf, tChain, tUn, rU, tFld, tPart, tNoPart, L2.tSl, tBM, tPar, tPar3, tTruth, tDNewK,
  L2.start, List.map_cons, List.map_nil, List.length_cons, List.length_nil, List.replicate_succ, List.replicate_zero, List.append_nil, List.nil_append, List.cons_append, List.singleton_append, Nat.sub_self, Nat.zero_add, Nat.reduceAdd, Nat.reduceSub,
  List.getElem?_cons_zero, List.getElem?_cons_succ, List.set_cons_zero, List.set_cons_succ, Option.some.injEq, exists_eq_left, exists_eq_left', V.int.injEq, V.bl.injEq, V.str.injEq, V.ref.injEq,
  uAdd_int, uAdd_str, uSub_int, uMul_int, uMul_str, uDiv_int, uMod_int, uPow_int, uLt_int, uLe_int, uGt_int, uGe_int, uIs_non, uNis_non, uIs_bl, uNis_bl, sp1, sp2, sp3, sp4, uEq_int, uEq_str, uNe_int, uNe_str, uSl_str, uLen_str, decide_eq_true_eq])
local macro_rules | `(tactic| walk_at "s") => `(tactic| ((try dsimp only [turnE]); with_reducible refine seq_ ?_))

include F in
theorem read__is_price_row (h : sp__is_price_row K vs H Q E) : t__is_price_row K E { nx := fun _ H' => Q .non H', rt := Q } (start ["value", "price"] vs) H := by
  match vs, h with
  | [x], ⟨b, hb, q⟩ =>
    unfold t__is_price_row
    walk_at "w"
    refine ⟨by decide, fun p hp => ?_⟩
    have e1 : Same H (upd H p (.tup [.ty "list", .ty "tuple"])) := same_new hp
    have hb1 := hb.same e1
    have hp1 : upd H p (.tup [.ty "list", .ty "tuple"]) p = some (.tup [.ty "list", .ty "tuple"]) := upd_same
    generalize upd H p (.tup [.ty "list", .ty "tuple"]) = H1 at *
    rcases hb1 with ⟨a, h1, h2, h3, rfl⟩ | ⟨r, xs, rfl, h1, h2, rfl⟩
    · refine isi_seq F hp1 h1 ?_
      have : (a.sub .lst || a.sub .tup) = false := by cases a <;> first | rfl | exact absurd rfl h2 | exact absurd rfl h3
      rw [this]
      exact ⟨_, rfl, q _ e1⟩
    · obtain ⟨a, ka, ks⟩ := h1.kind
      refine isi_seq F hp1 ka ?_
      rw [ks]
      refine ⟨_, rfl, ?_⟩
      rw [if_pos rfl]
      refine uLen_seq h1 (uLen_seq (.inr (F.ways H1)) ⟨_, rfl, ?_⟩)
      by_cases e : xs.length = 6
      · rw [decide_eq_true (by simp [e]), if_pos rfl]
        refine tLc_seq (p := r) h1 (tVar_eq rfl) fun J G P hG D hD => ?_
        refine lc_grow P (fun acc _ => acc = ((xs.map isPB).take acc.length).map V.bl) hD (by rw [e]; decide) hG (fun _ _ => rfl) (fun _ _ _ _ _ _ h => h) ?_ ?_
        · rintro i y acc H2 Q' hy s hl ha k
          obtain ⟨a, z⟩ := h2 y (List.mem_of_getElem? hy)
          have k := k (.bl (isPB y)) H2 (Same.refl _) (take_snoc V.bl ha hl (by simp [hy]))
          unfold sp_is_price
          walk_at "w"
          cases y with
          | non => simpa [isPB] using k
          | _ =>
            simp only [reduceCtorEq, decide_false, Bool.false_eq_true, if_false]
            refine ⟨a, z.same s, ?_⟩
            simpa [isPB, isPr] using k
        · rintro acc H2 hl s hD2 ha
          have hm : acc = (xs.map isPB).map V.bl := by
            rw [ha, hl, List.take_of_length_le (by simp)]
          refine ⟨D, xs.map isPB, rfl, .inl (.inl (by rw [hD2, hm])), ?_⟩
          have := q H2 (e1.trans s)
          simpa [e, List.all_map, Function.comp_def] using this
      · rw [decide_eq_false (by simp; omega)]
        simpa [e] using q _ e1
include F in
theorem read__are_rows (h : sp__are_rows K vs H Q E) : t__are_rows K E { nx := fun _ H' => Q .non H', rt := Q } (start ["value", "row"] vs) H := by
  match vs, h with
  | [x], ⟨b, hb, q⟩ =>
    unfold t__are_rows
    walk_at "w"
    refine ⟨by decide, fun p hp => ?_⟩
    have e1 : Same H (upd H p (.tup [.ty "list", .ty "tuple"])) := same_new hp
    have hb1 := hb.same e1
    have hp1 : upd H p (.tup [.ty "list", .ty "tuple"]) p = some (.tup [.ty "list", .ty "tuple"]) := upd_same
    generalize upd H p (.tup [.ty "list", .ty "tuple"]) = H1 at *
    rcases hb1 with ⟨a, h1, h2, h3, rfl⟩ | ⟨r, xs, bs, rfl, h1, hbl, h2, rfl⟩
    · refine isi_seq F hp1 h1 ?_
      have : (a.sub .lst || a.sub .tup) = false := by cases a <;> first | rfl | exact absurd rfl h2 | exact absurd rfl h3
      rw [this]
      exact ⟨_, rfl, q _ e1⟩
    · obtain ⟨a, ka, ks⟩ := h1.kind
      refine isi_seq F hp1 ka ?_
      rw [ks]
      refine ⟨_, rfl, ?_⟩
      rw [if_pos rfl]
      refine uLen_seq h1 ?_
      walk_at "w"
      by_cases l1 : 1 ≤ xs.length
      · rw [if_pos (show (1 : Int) ≤ xs.length by omega)]
        by_cases l2 : xs.length ≤ 60
        · rw [if_pos (show (xs.length : Int) ≤ 60 by omega)]
          refine tLc_seq (p := r) h1 (tVar_eq rfl) fun J G P hG D hD => ?_
          refine lc_grow P (fun acc _ => acc = (bs.take acc.length).map V.bl) hD (Nat.le_trans l2 (by decide)) hG (fun _ _ => rfl) (fun _ _ _ _ _ _ h => h) ?_ ?_
          · rintro i y acc H2 Q' hy s hl ha k
            have lt : i < xs.length := (List.getElem?_eq_some_iff.mp hy).1
            have hc : bs[i]? = some bs[i] := List.getElem?_eq_getElem (by omega)
            have z := (h2 i y _ hy hc).same s
            unfold sp__is_price_row
            walk_at "w"
            refine ⟨_, z, fun H3 s3 => k _ _ s3 ?_⟩
            exact take_snoc V.bl ha hl hc
          · rintro acc H2 hl s hD2 ha
            have hm : acc = bs.map V.bl := by rw [ha, hl, List.take_of_length_le (by omega)]
            refine ⟨D, bs, rfl, .inl (.inl (by rw [hD2, hm])), ?_⟩
            have := q H2 (e1.trans s)
            simpa [l1, l2] using this
        · rw [if_neg (show ¬ (xs.length : Int) ≤ 60 by omega)]
          simpa [l2] using q _ e1
      · rw [if_neg (show ¬ (1 : Int) ≤ xs.length by omega)]
        simpa [l1] using q _ e1
end
/-! ### making a yard -/
def RowV (K : PySem.W.Frag) (H : Hp) (x : V) (rows : List (List (Option Int))) : Prop := ∃ (p : Addr) (xs : List V), x = .ref p ∧ SqA K H p xs ∧ xs.length = rows.length ∧
  ∀ (i : Nat) (v : V) (r : List (Option Int)), xs[i]? = some v → rows[i]? = some r → ∃ q, v = .ref q ∧ SqA K H q (r.map pV)
def RowsOk (rows : List (List (Option Int))) : Prop := 1 ≤ rows.length ∧ rows.length ≤ 60 ∧ ∀ r ∈ rows, r.length = 6 ∧ r.all okP = true
theorem isPB_pV (p : Option Int) : isPB (pV p) = okP p := by cases p <;> rfl
theorem is_pV {K : PySem.W.Frag} {H : Hp} (p : Option Int) : ∃ a, Is K H (pV p) a := by
  cases p with
  | none => exact ⟨_, is_non⟩
  | some i => exact ⟨_, is_int i⟩
section
variable {K : PySem.W.Frag} {H H' : Hp} {x : V} {rows : List (List (Option Int))}
theorem RowV.same (e : Same H H') (h : RowV K H x rows) : RowV K H' x rows := by
  obtain ⟨p, xs, h1, h2, h3, h4⟩ := h
  refine ⟨p, xs, h1, h2.same e, h3, fun i v r g1 g2 => ?_⟩
  obtain ⟨q, z1, z2⟩ := h4 i v r g1 g2
  exact ⟨q, z1, z2.same e⟩
theorem RowV.rowsB (h : RowV K H x rows) (o : RowsOk rows) : RowsB K H x true := by
  obtain ⟨p, xs, h1, h2, h3, h4⟩ := h
  obtain ⟨o1, o2, o3⟩ := o
  refine .inr ⟨p, xs, xs.map fun _ => true, h1, h2, by simp, fun i v c g1 g2 => ?_, by simp; omega⟩
  rw [List.getElem?_map, g1] at g2
  cases g2
  have lt : i < rows.length := h3 ▸ (List.getElem?_eq_some_iff.mp g1).1
  obtain ⟨q, rfl, z⟩ := h4 i v rows[i] g1 (List.getElem?_eq_getElem lt)
  obtain ⟨k1, k2⟩ := o3 rows[i] (List.getElem_mem lt)
  refine .inr ⟨q, _, rfl, z, fun v m => ?_, ?_⟩
  · obtain ⟨p, _, rfl⟩ := List.mem_map.mp m
    exact is_pV p
  · rw [List.length_map, k1, List.all_map]
    have : (isPB ∘ pV) = okP := funext isPB_pV
    rw [this, k2]
    rfl
theorem Off.sqT_ins {a D : Addr} {xs : List V} {C dx : Addr} {fs : List (Str × V)} (h : Off D H H') (hD : H D = some (.ins C dx fs)) (q : SqT K H a xs) : SqT K H' a xs := by
  rcases q with (q | ⟨o, q⟩) | q
  · exact .inl (.inl (h _ _ (by rintro rfl; rw [hD] at q; cases q) q))
  · exact .inl (.inr ⟨o, h _ _ (by rintro rfl; rw [hD] at q; cases q) q⟩)
  · exact .inr q
end
def sp_Yard_init (K : PySem.W.Frag) : Sp := sp2 fun s x H Q E => ∃ a dx, s = .ref a ∧ H a = some (.ins (He.ga K "Yard") dx []) ∧
  ((∃ rows, RowV K H x rows ∧ RowsOk rows ∧ ∀ H', Off a H H' → Yd K H' a rows → (∃ dx t, H' a = some (.ins (He.ga K "Yard") dx [("_rows", .ref t), ("_reckoning", .non)])) → Q .non H') ∨ (RowsB K H x false ∧ Rz K "InvalidYard" "value" x H E))
def t_Yard_init (K : PySem.W.Frag) (E : XK) : TS := (tSeq (tIfS (tNot (tB (tFn (sp__are_rows K) E (tCons (tVar 1) tNil)))) (tRse K "InvalidYard" "value" E (tCons (tVar 1) tNil)) tNext) (tSeq (sFld K (tVar 0) (tCB (uTup K) (tCons (tLc (iSeq K (tVar 1)) (gName 2) tYes (tCB (uTup K) (tCons (tVar 2) tNil)) [2]) tNil)) "_rows") (sFld K (tVar 0) (tC .non) "_reckoning")))
section
variable {K : PySem.W.Frag} (F : KF K) {vs : List V} {H : Hp} {Q : VK} {E : XK}
local macro_rules | `(tactic| walk_at "w") => `(tactic| try simp only [turnE, lcT, Snoc, tRet, tRetN, tAndV, tOrV, tNotV, tCB, tCons, tVar, tNil, tC, tOp, tSeq, tAsg, gName, gSub, tIfS, tDrop, tFn, tTup, tLst, tNext, tB, tTest, tNot, tAnd, tOr, tIf, tChain, tUn, rU, tFld, tPart, tNoPart, L2.tSl, tBM, tPar, tPar3, tTruth, tDNewK,
  L2.start, List.map_cons, List.map_nil, List.length_cons, List.length_nil, List.replicate_succ, List.replicate_zero, List.append_nil, List.nil_append, List.cons_append, List.singleton_append, Nat.sub_self, Nat.zero_add, Nat.reduceAdd, Nat.reduceSub,
  List.getElem?_cons_zero, List.getElem?_cons_succ, List.set_cons_zero, List.set_cons_succ, Option.some.injEq, exists_eq_left, exists_eq_left', V.int.injEq, V.bl.injEq, V.str.injEq, V.ref.injEq,
  uAdd_int, uAdd_str, uSub_int, uMul_int, uMul_str, uDiv_int, uMod_int, uPow_int, uLt_int, uLe_int, uGt_int, uGe_int, uIs_non, uNis_non, uIs_bl, uNis_bl, sp1, sp2, sp3, sp4, uEq_int, uEq_str, uNe_int, uNe_str, uSl_str, uLen_str, decide_eq_true_eq])
local macro_rules | `(tactic| walk_at "1") => `(tactic| try simp only [turnE, lcT, Snoc, tRet, tRetN, tAndV, tOrV, tNotV, tCB, tCons, tVar, tNil, tC, tOp, tAsg, gName, gSub, tIfS, tDrop, tFn, tTup, tLst, tNext, tB, tTest, tNot, tAnd, tOr, tIf, tChain, tUn, rU, tFld, tPart, tNoPart, L2.tSl, tBM, tPar, tPar3, tTruth, tDNewK,
  L2.start, List.map_cons, List.map_nil, List.length_cons, List.length_nil, List.replicate_succ, List.replicate_zero, List.append_nil, List.nil_append, List.cons_append, List.singleton_append, Nat.sub_self, Nat.zero_add, Nat.reduceAdd, Nat.reduceSub,
  List.getElem?_cons_zero, List.getElem?_cons_succ, List.set_cons_zero, List.set_cons_succ, Option.some.injEq, exists_eq_left, exists_eq_left', V.int.injEq, V.bl.injEq, V.str.injEq, V.ref.injEq,
  uAdd_int, uAdd_str, uSub_int, uMul_int, uMul_str, uDiv_int, uMod_int, uPow_int, uLt_int, uLe_int, uGt_int, uGe_int, uIs_non, uNis_non, uIs_bl, uNis_bl, sp1, sp2, sp3, sp4, uEq_int, uEq_str, uNe_int, uNe_str, uSl_str, uLen_str, decide_eq_true_eq])
local macro_rules | `(tactic| walk_at "s") => `(tactic| ((try dsimp only [turnE]); with_reducible refine seq_ ?_))

include F in
theorem read_Yard_init (h : sp_Yard_init K vs H Q E) : t_Yard_init K E { nx := fun _ H' => Q .non H', rt := Q } (start ["self", "rows", "row"] vs) H := by
  match vs, h with
  | [_, x], ⟨a, dx, rfl, ha, h⟩ =>
    unfold t_Yard_init sp__are_rows
    walk_at "w"
    rcases h with ⟨rows, hr, ho, q⟩ | ⟨hb, rz⟩
    · refine ⟨true, hr.rowsB ho, fun H1 s1 => ?_⟩
      simp only [Bool.not_true, Bool.false_eq_true, if_false, sFld, tCB]
      obtain ⟨p, xs, rfl, h2, h3, h4⟩ := hr.same s1
      refine tLc_seq (p := p) h2 (tVar_eq rfl) fun J G P hG D hD => ?_
      refine lc_grow P (fun acc H => ∃ as : List Addr, acc = as.map V.ref ∧ as.length ≤ rows.length ∧ ∀ (i : Nat) (a : Addr) (r : List (Option Int)), as[i]? = some a → rows[i]? = some r → SqT K H a (r.map pV)) hD
        (by rw [h3]; exact Nat.le_trans ho.2.1 (by decide)) hG (fun _ _ => ⟨[], rfl, Nat.zero_le _, fun i a r z => by simp at z⟩) ?_ ?_ ?_
      · rintro acc l H2 H3 hl o ⟨as, e1, e2, e3⟩
        exact ⟨as, e1, e2, fun i a r z1 z2 => o.sqT hl (e3 i a r z1 z2)⟩
      · rintro i y acc H2 Q' hy s hl ⟨as, e1, e2, e3⟩ k
        have lt : i < rows.length := h3 ▸ (List.getElem?_eq_some_iff.mp hy).1
        obtain ⟨b, rfl, z⟩ := h4 i y rows[i] hy (List.getElem?_eq_getElem lt)
        have z := z.same s
        walk_at "w"
        have hl2 : as.length = i := by rw [e1, List.length_map] at hl; exact hl
        have step : ∀ (c : Addr) (H3 : Hp), Same H2 H3 → SqT K H3 c (rows[i].map pV) → Q' (.ref c) H3 := fun c H3 s3 hc => by
          refine k _ _ s3 ⟨as ++ [c], by simp [e1], by simp; omega, fun j d r z1 z2 => ?_⟩
          by_cases e : j = i
          · subst e
            rw [List.getElem?_append_right (by omega), hl2] at z1
            simp at z1
            subst z1
            rw [List.getElem?_eq_getElem lt] at z2
            cases z2
            exact hc
          · have : j < as.length := by
              have := (List.getElem?_eq_some_iff.mp z1).1
              simp at this
              omega
            rw [List.getElem?_append_left this] at z1
            exact Same.sqT s3 (e3 j d r z1 z2)
        rcases z with z | z
        · exact ⟨_, .inl ⟨z, fun l hl => step l _ (same_new hl) (.inl (.inl upd_same))⟩⟩
        · exact ⟨_, .inr ⟨z, step b _ (Same.refl _) z⟩⟩
      · rintro acc H2 hl s hD2 ⟨as, e1, e2, e3⟩
        have hla : as.length = rows.length := by rw [e1, List.length_map] at hl; omega
        refine ⟨acc, .inl ⟨.inl (.inl hD2), fun t ht => ?_⟩⟩
        have st : Same H2 (upd H2 t (.tup acc)) := same_new ht
        have hat : upd H2 t (.tup acc) a = some (.ins (He.ga K "Yard") dx []) := st _ _ (s _ _ (s1 _ _ ha))
        have htt : upd H2 t (.tup acc) t = some (.tup acc) := upd_same
        have sall : Same H (upd H2 t (.tup acc)) := (s1.trans s).trans st
        have e3' : ∀ (i : Nat) (a : Addr) (r : List (Option Int)), as[i]? = some a → rows[i]? = some r → SqT K (upd H2 t (.tup acc)) a (r.map pV) := fun i a r z1 z2 => Same.sqT st (e3 i a r z1 z2)
        generalize upd H2 t (.tup acc) = H4 at *
        refine ⟨.ref a, rfl, a, _, dx, [], rfl, hat, F.cl, F.na, by simp, ?_⟩
        refine ⟨.ref a, rfl, a, _, dx, _, rfl, upd_same, F.cl, F.na2, by simp [putF], ?_⟩
        have of : Off a H4 (upd (upd H4 a (.ins (He.ga K "Yard") dx (putF "_rows" (.ref t) []))) a (.ins (He.ga K "Yard") dx (putF "_reckoning" .non (putF "_rows" (.ref t) [])))) := Off.trans off_upd off_upd
        refine q _ (Off.trans (Same.off sall) of) ⟨dx, t, as, ⟨_, upd_same⟩, of.sqT_ins hat (.inl (.inl (by rw [htt, e1]))), hla, ho.2.1, ho.1, fun i b r z1 z2 => of.sqT_ins hat (e3' i b r z1 z2), ho.2.2⟩ ⟨dx, t, upd_same⟩
    · refine ⟨false, hb, fun H1 s1 => ?_⟩
      simp only [if_true, Bool.not_false]
      exact rse_var (K := K) (c := "InvalidYard") (f := "value") (E := E) (i := 1) rfl (rz.same s1)
end
end U
namespace U
open PySem PySem.Spec PyProof.Rows L2

/-! ### arrangements as lists of digits -/
def pl (d : Nat) : Str := ⟨#[97 + d]⟩
def wd (ds : List Nat) : Str := ⟨(ds.map (97 + ·)).toArray⟩
def D3 (ds : List Nat) : Prop := ∀ d ∈ ds, d < 3
theorem pl_a : pl 0 = "a" := by decide
theorem pl_b : pl 1 = "b" := by decide
theorem pl_c : pl 2 = "c" := by decide
theorem pl_inj {a b : Nat} (h : pl a = pl b) : a = b := by
  have := congrArg Str.cps h
  simp [pl] at this
  omega
theorem strL_wd (ds : List Nat) : strL (wd ds) = ds.map fun d => V.str (pl d) := by
  simp [strL, wd, pl]
theorem wd_size (ds : List Nat) : (wd ds).cps.size = ds.length := by simp [wd]
theorem wd_length (ds : List Nat) : (wd ds).length = ds.length := wd_size ds
theorem wd_app (as bs : List Nat) : wd as ++ wd bs = wd (as ++ bs) := by
  show (⟨(wd as).cps ++ (wd bs).cps⟩ : Str) = _
  simp [wd]
theorem wd_pl (d : Nat) : wd [d] = pl d := rfl
theorem wd_inj {as bs : List Nat} (h : wd as = wd bs) : as = bs := by
  have := congrArg (fun z => z.cps.toList) h
  simp only [wd, List.toList_toArray] at this
  have h2 := congrArg (List.map (· - 97)) this
  simp only [List.map_map] at h2
  have e : ((fun x => x - 97) ∘ fun x => 97 + x) = (id : Nat → Nat) := by
    funext x
    simp
  rw [e, List.map_id, List.map_id] at h2
  exact h2
theorem isPl_pl {d : Nat} (h : d < 3) : isPl (.str (pl d)) = true := by
  match d, h with
  | 0, _ => decide
  | 1, _ => decide
  | 2, _ => decide
theorem isPl_inv {x : V} (h : isPl x = true) : ∃ d, d < 3 ∧ x = .str (pl d) := by
  cases x with
  | str z =>
    simp only [isPl, Bool.or_eq_true, decide_eq_true_eq] at h
    rcases h with (h | h) | h
    · exact ⟨0, by decide, by rw [h, pl_a]⟩
    · exact ⟨1, by decide, by rw [h, pl_b]⟩
    · exact ⟨2, by decide, by rw [h, pl_c]⟩
  | _ => cases h
/-- is a value an arrangement of n crates -/
def arrB (n : Nat) : V → Bool
  | .str z => decide (z.cps.size = n) && (strL z).all isPl
  | _ => false
theorem arrB_wd {n : Nat} {ds : List Nat} (h : ds.length = n) (h3 : D3 ds) : arrB n (.str (wd ds)) = true := by
  simp only [arrB, wd_size, h, decide_true, Bool.true_and, strL_wd, List.all_map, List.all_eq_true, Function.comp]
  exact fun d m => isPl_pl (h3 d m)
def Short (x : V) : Prop := ∀ z, x = .str z → z.length ≤ sizeLine
/-- a yard, or an InvalidYard -/
def YardOr (K : PySem.W.Frag) (H : Hp) (y : V) (E : XK) (k : List (List (Option Int)) → Prop) : Prop := ∃ a, Is K H y a ∧ (a ≠ .yard → Rz K "InvalidYard" "value" y H E) ∧ (a = .yard → ∃ p rows, y = .ref p ∧ Yd K H p rows ∧ k rows)
theorem yardOr_of {K : PySem.W.Frag} (F : KF K) {H : Hp} {p : Addr} {E : XK} {rows : List (List (Option Int))} {k : List (List (Option Int)) → Prop} (h : Yd K H p rows) (q : k rows) : YardOr K H (.ref p) E k := by
  obtain ⟨dx, t, as, ⟨rk, h1⟩, _⟩ := id h
  exact ⟨.yard, is_yard F h1, fun z => absurd rfl z, fun _ => ⟨p, rows, rfl, h, q⟩⟩
theorem YardOr.to {K : PySem.W.Frag} {H : Hp} {y : V} {E E' : XK} {k k' : List (List (Option Int)) → Prop} (h : YardOr K H y E k) (e : Rz K "InvalidYard" "value" y H E → Rz K "InvalidYard" "value" y H E') (f : ∀ p rows, y = .ref p → Yd K H p rows → k rows → k' rows) : YardOr K H y E' k' := by
  obtain ⟨a, h1, h2, h3⟩ := h
  refine ⟨a, h1, fun z => e (h2 z), fun z => ?_⟩
  obtain ⟨p, rows, r1, r2, r3⟩ := h3 z
  exact ⟨p, rows, r1, r2, f p rows r1 r2 r3⟩
theorem lenO_of {K : PySem.W.Frag} {H : Hp} {y : Addr} {rows : List (List (Option Int))} {Q : VK} (h : Yd K H y rows) (q : Q (.int rows.length) H) : rLenO (He.ga K "Yard") (sp_Yard_len K) [.ref y] H Q := by
  obtain ⟨dx, t, as, ⟨rk, h1⟩, h2, h3, h4, h5, h6⟩ := id h
  exact ⟨y, dx, _, rfl, h1, y, rows, rfl, h, rows.length, rfl, by omega, by omega, q⟩
def sp_is_arrangement (K : PySem.W.Frag) : Sp := sp2 fun y x H Q E => YardOr K H y E fun rows => ∃ b, Is K H x b ∧ Short x ∧ ∀ H', Same H H' → Q (.bl (arrB rows.length x)) H'
def sp_check_arrangement (K : PySem.W.Frag) : Sp := sp2 fun y x H Q E => YardOr K H y E fun rows => ∃ b, Is K H x b ∧ Short x ∧ (arrB rows.length x = true → ∀ H', Same H H' → Q .non H') ∧ (arrB rows.length x = false → Rz K "InvalidArrangement" "value" x H E)
def Arr (n : Nat) (x : V) (ds : List Nat) : Prop := x = .str (wd ds) ∧ ds.length = n ∧ D3 ds
/-- no arrangement, and so an InvalidArrangement -/
def NoArr (K : PySem.W.Frag) (H : Hp) (n : Nat) (x : V) (E : XK) : Prop := ∃ b, Is K H x b ∧ Short x ∧ arrB n x = false ∧ Rz K "InvalidArrangement" "value" x H E
def t_is_arrangement (K : PySem.W.Frag) (E : XK) : TS := (tSeq (tDrop (tFn (sp_check_yard K) E (tCons (tVar 0) tNil))) (tRet (tAndV (tCB (uIsi K) (tCons (tVar 1) (tCons (tC (.ty "str")) tNil))) (tAndV (tOp (uEq K) (tCB (uLen K) (tCons (tVar 1) tNil)) (tCB (rLenO (He.ga K "Yard") (sp_Yard_len K)) (tCons (tVar 0) tNil))) (tOp (uEq K) (tBM K "str" rStrip (tVar 1) (tCons (tC (.str "abc")) tNil)) (tC (.str "")))))))
def t_check_arrangement (K : PySem.W.Frag) (E : XK) : TS := (tIfS (tNot (tB (tFn (sp_is_arrangement K) E (tCons (tVar 0) (tCons (tVar 1) tNil))))) (tRse K "InvalidArrangement" "value" E (tCons (tVar 1) tNil)) tNext)
section
variable {K : PySem.W.Frag} (F : KF K) {vs : List V} {H : Hp} {Q : VK} {E : XK}
local macro_rules | `(tactic| walk_at "w") => `(tactic| try simp only [turnE, lcT, Snoc, tRet, tRetN, tAndV, tOrV, tNotV, tCB, tCons, tVar, tNil, tC, tOp, tSeq, tAsg, gName, gSub, tIfS, tDrop, tFn, tTup, tLst, tNext, tB, tTest, tNot, tAnd, tOr, tIf, tChain, tUn, rU, tFld, tPart, tNoPart, L2.tSl, tBM, tPar, tPar3, tTruth, tDNewK,
  L2.start, List.map_cons, List.map_nil, List.length_cons, List.length_nil, List.replicate_succ, List.replicate_zero, List.append_nil, List.nil_append, List.cons_append, List.singleton_append, Nat.sub_self, Nat.zero_add, Nat.reduceAdd, Nat.reduceSub,
  List.getElem?_cons_zero, List.getElem?_cons_succ, List.set_cons_zero, List.set_cons_succ, Option.some.injEq, exists_eq_left, exists_eq_left', V.int.injEq, V.bl.injEq, V.str.injEq, V.ref.injEq,
  uAdd_int, uAdd_str, uSub_int, uMul_int, uMul_str, uDiv_int, uMod_int, uPow_int, uLt_int, uLe_int, uGt_int, uGe_int, uIs_non, uNis_non, uIs_bl, uNis_bl, sp1, sp2, sp3, sp4, uEq_int, uEq_str, uNe_int, uNe_str, uSl_str, uLen_str, decide_eq_true_eq])
local macro_rules | `(tactic| walk_at "1") => `(tactic| try simp only [turnE, lcT, Snoc, tRet, tRetN, tAndV, tOrV, tNotV, tCB, tCons, tVar, tNil, tC, tOp, tAsg, gName, gSub, tIfS, tDrop, tFn, tTup, tLst, tNext, tB, tTest, tNot, tAnd, tOr, tIf, tChain, tUn, rU, tFld, tPart, tNoPart, L2.tSl, tBM, tPar, tPar3, tTruth, tDNewK,
  L2.start, List.map_cons, List.map_nil, List.length_cons, List.length_nil, List.replicate_succ, List.replicate_zero, List.append_nil, List.nil_append, List.cons_append, List.singleton_append, Nat.sub_self, Nat.zero_add, Nat.reduceAdd, Nat.reduceSub,
  List.getElem?_cons_zero, List.getElem?_cons_succ, List.set_cons_zero, List.set_cons_succ, Option.some.injEq, exists_eq_left, exists_eq_left', V.int.injEq, V.bl.injEq, V.str.injEq, V.ref.injEq,
  uAdd_int, uAdd_str, uSub_int, uMul_int, uMul_str, uDiv_int, uMod_int, uPow_int, uLt_int, uLe_int, uGt_int, uGe_int, uIs_non, uNis_non, uIs_bl, uNis_bl, sp1, sp2, sp3, sp4, uEq_int, uEq_str, uNe_int, uNe_str, uSl_str, uLen_str, decide_eq_true_eq])
local macro_rules | `(tactic| walk_at "s") => `(tactic| ((try dsimp only [turnE]); with_reducible refine seq_ ?_))

/-- check_yard(y), and then -/
theorem chk_yard {y : V} {H : Hp} {k : List (List (Option Int)) → Prop} {Q : VK} (h : YardOr K H y E k) (q : ∀ p rows, y = .ref p → Yd K H p rows → k rows → Q .non H) : sp_check_yard K [y] H Q E := by
  obtain ⟨a, h1, h2, h3⟩ := h
  refine ⟨a, h1, fun e => ?_, h2⟩
  obtain ⟨p, rows, z1, z2, z3⟩ := h3 e
  exact q p rows z1 z2 z3
theorem abc_one (c : Nat) : ("abc" : Str).cps.contains c = true ↔ isPl (.str ⟨#[c]⟩) = true := by
  have e : ("abc" : Str).cps = #[97, 98, 99] := by decide
  rw [e]
  constructor
  · intro h
    have h : c = 97 ∨ c = 98 ∨ c = 99 := by simpa using h
    rcases h with rfl | rfl | rfl <;> decide
  · intro h
    obtain ⟨d, hd, h2⟩ := isPl_inv h
    injection h2 with h2
    have h3 : (#[c] : Array Nat) = #[97 + d] := congrArg Str.cps h2
    have h4 : c = 97 + d := by simpa using h3
    subst h4
    have : d = 0 ∨ d = 1 ∨ d = 2 := by omega
    rcases this with rfl | rfl | rfl <;> simp
theorem strip_places (z : Str) : decide (Txt.stripChars z "abc" = "") = (strL z).all isPl := by
  rw [Bool.eq_iff_iff, decide_eq_true_iff, strip_nil, List.all_eq_true]
  unfold strL
  constructor
  · intro h v hv
    obtain ⟨c, hc, rfl⟩ := List.mem_map.mp hv
    exact (abc_one c).mp (h c hc)
  · intro h c hc
    exact (abc_one c).mpr (h _ (List.mem_map.mpr ⟨c, hc, rfl⟩))
include F in
theorem read_is_arrangement (h : sp_is_arrangement K vs H Q E) : t_is_arrangement K E { nx := fun _ H' => Q .non H', rt := Q } (start ["yard", "value"] vs) H := by
  match vs, h with
  | [y, x], h =>
    unfold t_is_arrangement
    walk_at "w"
    refine chk_yard h fun p rows ep hy ⟨b, hb, hs, q⟩ => ?_
    subst ep
    refine isi_ty (b := .str) F rfl hb ?_
    walk_at "w"
    by_cases e : b = .str
    · subst e
      obtain ⟨z, rfl⟩ := hb.str_inv
      simp only [Ty.sub, decide_true, Bool.true_or, if_true]
      refine ⟨hs z rfl, ?_⟩
      refine lenO_of hy ?_
      rw [uEq_int]
      refine ⟨_, rfl, ?_⟩
      by_cases el : z.cps.size = rows.length
      · rw [decide_eq_true (by show ((z.cps.size : Nat) : Int) = _; omega), if_pos rfl]
        refine ⟨rfl, z, "abc", rfl, rfl, hs z rfl, ?_⟩
        walk_at "w"
        rw [strip_places]
        have := q H (Same.refl H)
        simpa [arrB, el] using this
      · rw [decide_eq_false (by show ¬ ((z.cps.size : Nat) : Int) = _; omega), if_neg (by simp)]
        have := q H (Same.refl H)
        simpa [arrB, el] using this
    · rw [if_neg (by simp [Ty.sub, e])]
      have this := q H (Same.refl H)
      have e2 : arrB rows.length x = false := by cases x <;> first | rfl | exact absurd hb.of_str e
      rwa [e2] at this
include F in
theorem read_check_arrangement (h : sp_check_arrangement K vs H Q E) : t_check_arrangement K E { nx := fun _ H' => Q .non H', rt := Q } (start ["yard", "arrangement"] vs) H := by
  match vs, h with
  | [y, x], h =>
    unfold t_check_arrangement sp_is_arrangement
    walk_at "w"
    refine YardOr.to h id fun p rows ep hy ⟨b, hb, hs, q1, q2⟩ => ⟨b, hb, hs, fun H1 s => ?_⟩
    cases e : arrB rows.length x with
    | true => exact q1 e H1 s
    | false => exact rse_var (K := K) (c := "InvalidArrangement") (f := "value") (E := E) (i := 1) (D := { nx := fun _ H' => Q .non H', rt := Q }) rfl ((q2 e).same s)

theorem mul_pl (d n : Nat) : Txt.mul (pl d) (n : Int) = wd (List.replicate n d) := by
  have key : ∀ (m : Nat) (acc : Array Nat), ((List.replicate m (pl d).cps).foldl (· ++ ·) acc).toList = acc.toList ++ List.replicate m (97 + d) := by
    intro m
    induction m with
    | zero => intro acc; simp
    | succ m ih =>
      intro acc
      rw [List.replicate_succ, List.foldl_cons, ih]
      simp [pl, List.replicate_succ]
  have e : (wd (List.replicate n d)).cps.toList = List.replicate n (97 + d) := by simp [wd]
  have ext : ∀ a b : Str, a.cps.toList = b.cps.toList → a = b := fun a b h => by
    obtain ⟨a⟩ := a
    obtain ⟨b⟩ := b
    exact congrArg Str.mk (Array.toList_inj.mp h)
  apply ext
  rw [e]
  unfold Txt.mul
  match n with
  | 0 => rfl
  | 1 => rfl
  | n + 2 =>
    rw [if_neg (by omega), if_neg (by
      have h1 : (((n + 2 : Nat) : Int) == 1) = false := by simpa using (by omega : ¬ ((n : Int) + 2 = 1))
      have h2 : ((pl d).length == 0) = false := rfl
      rw [h1, h2]; decide)]
    rw [key]
    simp
    omega
theorem chk_arr {y x : V} {H : Hp} {Q : VK} {k : List (List (Option Int)) → List Nat → Prop} (h : YardOr K H y E fun rows => (∃ ds, Arr rows.length x ds ∧ k rows ds) ∨ NoArr K H rows.length x E)
    (q : ∀ p rows ds, y = .ref p → Yd K H p rows → Arr rows.length x ds → k rows ds → ∀ H', Same H H' → Q .non H') : sp_check_arrangement K [y, x] H Q E := by
  refine YardOr.to h id fun p rows e hy g => ?_
  rcases g with ⟨ds, ⟨rfl, a1, a2⟩, g⟩ | ⟨b, g1, g2, g3, g4⟩
  · refine ⟨.str, is_str _, fun z e => ?_, fun _ => q p rows ds e hy ⟨rfl, a1, a2⟩ g, fun z => ?_⟩
    · cases e
      obtain ⟨_, _, _, _, _, _, l1, l2, _⟩ := hy
      rw [wd_length, a1]
      exact Nat.le_trans l1 (by decide)
    · rw [arrB_wd a1 a2] at z
      cases z
  · exact ⟨b, g1, g2, fun z => absurd (g3.symm.trans z) (by decide), fun _ => g4⟩
theorem chk_arr3 {y x : V} {H : Hp} {Q : VK} {k : List (List (Option Int)) → List Nat → Prop} (h : YardOr K H y E fun rows => NoArr K H rows.length x E ∨ ∃ ds, Arr rows.length x ds ∧ k rows ds)
    (q : ∀ p rows ds, y = .ref p → Yd K H p rows → Arr rows.length x ds → k rows ds → ∀ H', Same H H' → Q .non H') : sp_check_arrangement K [y, x] H Q E :=
  chk_arr (k := k) (YardOr.to h id fun _ _ _ _ g => g.symm) q
end
theorem uIx_str {K : PySem.W.Frag} {z : Str} {i : Int} {c : Nat} {H : Hp} {Q : VK} (h : z.length ≤ sizeLine) (hi : atI z.cps.toList i = some c) (q : Q (.str ⟨#[c]⟩) H) : uIx K (.str z) (.int i) H Q := ⟨h, c, hi, q⟩
theorem cut_wd (ds : List Nat) (lo hi : Option Int) : cutS (wd ds) lo hi = wd ((ds.drop (HT.sIx ds.length 0 lo)).take (HT.sIx ds.length ds.length hi - HT.sIx ds.length 0 lo)) := by
  unfold cutS
  rw [wd_length]
  have e : (wd ds).cps.toList = ds.map (97 + ·) := by simp [wd]
  rw [e, ← List.map_drop, ← List.map_take]
  rfl
theorem cut_from {ds : List Nat} {k : Nat} (h : k ≤ ds.length) : cutS (wd ds) (some (k : Int)) none = wd (ds.drop k) := by
  rw [cut_wd, HT.sIx_none, HT.sIx_nat]
  have e : min k ds.length = k := by omega
  rw [e, List.take_of_length_le (by simp)]
end U
namespace U
open PySem PySem.Spec PyProof.Rows L2

/-! ### ways, prices, moves -/
def Mv (K : PySem.W.Frag) (H : Hp) (t : Addr) (k d : Nat) : Prop := SqT K H t [.int k, .str (pl d)]
/-- a value that has the form of a move, or not -/
def MvF (K : PySem.W.Frag) (H : Hp) (n : Nat) (x : V) (b : Bool) : Prop := (∃ a, Is K H x a ∧ a ≠ .tup ∧ b = false) ∨
  ∃ t xs, x = .ref t ∧ SqT K H t xs ∧ ((xs.length ≠ 2 ∧ b = false) ∨ ∃ u v c e, xs = [u, v] ∧ Is K H u c ∧ Is K H v e ∧ b = (isIn u 0 ((n : Int) - 1) && isPl v))
theorem MvF.same {K : PySem.W.Frag} {H H' : Hp} {n : Nat} {x : V} {b : Bool} (e : Same H H') (h : MvF K H n x b) : MvF K H' n x b := by
  rcases h with ⟨a, h, r⟩ | ⟨t, xs, h1, h2, h3⟩
  · exact .inl ⟨a, h.same e, r⟩
  · refine .inr ⟨t, xs, h1, Same.sqT e h2, ?_⟩
    rcases h3 with h3 | ⟨u, v, c, d, z1, z2, z3, z4⟩
    · exact .inl h3
    · exact .inr ⟨u, v, c, d, z1, z2.same e, z3.same e, z4⟩
theorem Mv.form {K : PySem.W.Frag} {H : Hp} {t : Addr} {k d n : Nat} (h : Mv K H t k d) (hk : k < n) (hd : d < 3) : MvF K H n (.ref t) true := by
  refine .inr ⟨t, _, rfl, h, .inr ⟨_, _, .int, .str, rfl, is_int _, is_str _, ?_⟩⟩
  rw [isPl_pl hd]
  show true = (decide ((0 : Int) ≤ (k : Int)) && decide ((k : Int) ≤ (n : Int) - 1) && true)
  rw [decide_eq_true (by omega), decide_eq_true (by omega)]
  rfl
def sp_third (K : PySem.W.Frag) : Sp := sp1 fun x H Q E => ∃ a, Is K H x a ∧ (isWy x = false → Rz K "InvalidWay" "value" x H E) ∧ ∀ a b, a < 3 → b < 3 → a ≠ b → x = .str (wd [a, b]) → Q (.str (pl (3 - a - b))) H
def t_third (K : PySem.W.Frag) (E : XK) : TS := (tSeq (tDrop (tFn (sp_check_way K) E (tCons (tVar 0) tNil))) (tRet (tOp (rThird K) (tC (.ref (He.ga K "THIRDS"))) (tVar 0))))
section
variable {K : PySem.W.Frag} (F : KF K) {vs : List V} {H : Hp} {Q : VK} {E : XK}
local macro_rules | `(tactic| walk_at "w") => `(tactic| try simp only [turnE, lcT, Snoc, tRet, tRetN, tAndV, tOrV, tNotV, tCB, tCons, tVar, tNil, tC, tOp, tSeq, tAsg, gName, gSub, tIfS, tDrop, tFn, tTup, tLst, tNext, tB, tTest, tNot, tAnd, tOr, tIf, tChain, tUn, rU, tFld, tPart, tNoPart, L2.tSl, tBM, tPar, tPar3, tTruth, tDNewK,
  L2.start, List.map_cons, List.map_nil, List.length_cons, List.length_nil, List.replicate_succ, List.replicate_zero, List.append_nil, List.nil_append, List.cons_append, List.singleton_append, Nat.sub_self, Nat.zero_add, Nat.reduceAdd, Nat.reduceSub,
  List.getElem?_cons_zero, List.getElem?_cons_succ, List.set_cons_zero, List.set_cons_succ, Option.some.injEq, exists_eq_left, exists_eq_left', V.int.injEq, V.bl.injEq, V.str.injEq, V.ref.injEq,
  uAdd_int, uAdd_str, uSub_int, uMul_int, uMul_str, uDiv_int, uMod_int, uPow_int, uLt_int, uLe_int, uGt_int, uGe_int, uIs_non, uNis_non, uIs_bl, uNis_bl, sp1, sp2, sp3, sp4, uEq_int, uEq_str, uNe_int, uNe_str, uSl_str, uLen_str, decide_eq_true_eq])
local macro_rules | `(tactic| walk_at "1") => `(tactic| try simp only [turnE, lcT, Snoc, tRet, tRetN, tAndV, tOrV, tNotV, tCB, tCons, tVar, tNil, tC, tOp, tAsg, gName, gSub, tIfS, tDrop, tFn, tTup, tLst, tNext, tB, tTest, tNot, tAnd, tOr, tIf, tChain, tUn, rU, tFld, tPart, tNoPart, L2.tSl, tBM, tPar, tPar3, tTruth, tDNewK,
  L2.start, List.map_cons, List.map_nil, List.length_cons, List.length_nil, List.replicate_succ, List.replicate_zero, List.append_nil, List.nil_append, List.cons_append, List.singleton_append, Nat.sub_self, Nat.zero_add, Nat.reduceAdd, Nat.reduceSub,
  List.getElem?_cons_zero, List.getElem?_cons_succ, List.set_cons_zero, List.set_cons_succ, Option.some.injEq, exists_eq_left, exists_eq_left', V.int.injEq, V.bl.injEq, V.str.injEq, V.ref.injEq,
  uAdd_int, uAdd_str, uSub_int, uMul_int, uMul_str, uDiv_int, uMod_int, uPow_int, uLt_int, uLe_int, uGt_int, uGe_int, uIs_non, uNis_non, uIs_bl, uNis_bl, sp1, sp2, sp3, sp4, uEq_int, uEq_str, uNe_int, uNe_str, uSl_str, uLen_str, decide_eq_true_eq])
local macro_rules | `(tactic| walk_at "s") => `(tactic| ((try dsimp only [turnE]); with_reducible refine seq_ ?_))

theorem isWy_wd {a b : Nat} (ha : a < 3) (hb : b < 3) (n : a ≠ b) : isWy (.str (wd [a, b])) = true ∧ (wd [a, b], pl (3 - a - b)) ∈ thirds := by
  match a, ha, b, hb with
  | 0, _, 0, _ => exact absurd rfl n
  | 0, _, 1, _ => exact ⟨by decide, by decide⟩
  | 0, _, 2, _ => exact ⟨by decide, by decide⟩
  | 1, _, 0, _ => exact ⟨by decide, by decide⟩
  | 1, _, 1, _ => exact absurd rfl n
  | 1, _, 2, _ => exact ⟨by decide, by decide⟩
  | 2, _, 0, _ => exact ⟨by decide, by decide⟩
  | 2, _, 1, _ => exact ⟨by decide, by decide⟩
  | 2, _, 2, _ => exact absurd rfl n
theorem isWy_inv {x : V} (h : isWy x = true) : ∃ a b, a < 3 ∧ b < 3 ∧ a ≠ b ∧ x = .str (wd [a, b]) := by
  cases x with
  | str z =>
    have h : z ∈ wayL := of_decide_eq_true h
    simp only [wayL, List.mem_cons, List.not_mem_nil, or_false] at h
    rcases h with rfl | rfl | rfl | rfl | rfl | rfl
    · exact ⟨0, 1, by decide, by decide, by decide, by decide⟩
    · exact ⟨0, 2, by decide, by decide, by decide, by decide⟩
    · exact ⟨1, 0, by decide, by decide, by decide, by decide⟩
    · exact ⟨1, 2, by decide, by decide, by decide, by decide⟩
    · exact ⟨2, 0, by decide, by decide, by decide, by decide⟩
    · exact ⟨2, 1, by decide, by decide, by decide, by decide⟩
  | _ => cases h
include F in
theorem read_third (h : sp_third K vs H Q E) : t_third K E { nx := fun _ H' => Q .non H', rt := Q } (start ["way"] vs) H := by
  match vs, h with
  | [x], ⟨a, ha, q1, q2⟩ =>
    unfold t_third sp_check_way
    walk_at "w"
    refine ⟨a, ha, fun e => ?_, q1⟩
    obtain ⟨a, b, h1, h2, h3, rfl⟩ := isWy_inv e
    exact ⟨_, _, rfl, rfl, (isWy_wd h1 h2 h3).2, q2 a b h1 h2 h3 rfl⟩
theorem at_nat {xs : List V} {k : Nat} {v : V} (h : xs[k]? = some v) : atI xs (k : Int) = some v := by
  have lt := (List.getElem?_eq_some_iff.mp h).1
  unfold atI ixN
  rw [if_pos (Int.natCast_nonneg k), if_pos (by omega)]
  show xs[((k : Nat) : Int).toNat]? = _
  rw [Int.toNat_natCast, h]
theorem Yd.ys {y : Addr} {rows : List (List (Option Int))} (h : Yd K H y rows) : ∃ dx t rk, H y = some (.ins (He.ga K "Yard") dx [("_rows", .ref t), ("_reckoning", rk)]) ∧ Ys K H t rows := by
  obtain ⟨dx, t, as, ⟨rk, h1⟩, h2, h3, h4, h5, h6, h7⟩ := h
  exact ⟨dx, t, rk, h1, as, h2, h3, h6⟩
theorem Yd.six {y : Addr} {rows : List (List (Option Int))} (h : Yd K H y rows) {k : Nat} (hk : k < rows.length) : rows[k].length = 6 := by
  obtain ⟨_, _, _, _, _, _, _, _, _, h7⟩ := h
  exact (h7 rows[k] (List.getElem_mem hk)).1
end
end U
namespace U
open PySem PySem.Spec PyProof.Rows L2

/-! ### a yard's lists, and other yards made of one -/
section
variable {K : PySem.W.Frag} (F : KF K) {vs : List V} {H : Hp} {Q : VK} {E : XK}
local macro_rules | `(tactic| walk_at "w") => `(tactic| try simp only [turnE, lcT, Snoc, tRet, tRetN, tAndV, tOrV, tNotV, tCB, tCons, tVar, tNil, tC, tOp, tSeq, tAsg, gName, gSub, tIfS, tDrop, tFn, tTup, tLst, tNext, tB, tTest, tNot, tAnd, tOr, tIf, tChain, tUn, rU, tFld, tPart, tNoPart, L2.tSl, tBM, tPar, tPar3, tTruth, tDNewK,
  L2.start, List.map_cons, List.map_nil, List.length_cons, List.length_nil, List.replicate_succ, List.replicate_zero, List.append_nil, List.nil_append, List.cons_append, List.singleton_append, Nat.sub_self, Nat.zero_add, Nat.reduceAdd, Nat.reduceSub,
  List.getElem?_cons_zero, List.getElem?_cons_succ, List.set_cons_zero, List.set_cons_succ, Option.some.injEq, exists_eq_left, exists_eq_left', V.int.injEq, V.bl.injEq, V.str.injEq, V.ref.injEq,
  uAdd_int, uAdd_str, uSub_int, uMul_int, uMul_str, uDiv_int, uMod_int, uPow_int, uLt_int, uLe_int, uGt_int, uGe_int, uIs_non, uNis_non, uIs_bl, uNis_bl, sp1, sp2, sp3, sp4, uEq_int, uEq_str, uNe_int, uNe_str, uSl_str, uLen_str, decide_eq_true_eq])
local macro_rules | `(tactic| walk_at "1") => `(tactic| try simp only [turnE, lcT, Snoc, tRet, tRetN, tAndV, tOrV, tNotV, tCB, tCons, tVar, tNil, tC, tOp, tAsg, gName, gSub, tIfS, tDrop, tFn, tTup, tLst, tNext, tB, tTest, tNot, tAnd, tOr, tIf, tChain, tUn, rU, tFld, tPart, tNoPart, L2.tSl, tBM, tPar, tPar3, tTruth, tDNewK,
  L2.start, List.map_cons, List.map_nil, List.length_cons, List.length_nil, List.replicate_succ, List.replicate_zero, List.append_nil, List.nil_append, List.cons_append, List.singleton_append, Nat.sub_self, Nat.zero_add, Nat.reduceAdd, Nat.reduceSub,
  List.getElem?_cons_zero, List.getElem?_cons_succ, List.set_cons_zero, List.set_cons_succ, Option.some.injEq, exists_eq_left, exists_eq_left', V.int.injEq, V.bl.injEq, V.str.injEq, V.ref.injEq,
  uAdd_int, uAdd_str, uSub_int, uMul_int, uMul_str, uDiv_int, uMod_int, uPow_int, uLt_int, uLe_int, uGt_int, uGe_int, uIs_non, uNis_non, uIs_bl, uNis_bl, sp1, sp2, sp3, sp4, uEq_int, uEq_str, uNe_int, uNe_str, uSl_str, uLen_str, decide_eq_true_eq])
local macro_rules | `(tactic| walk_at "s") => `(tactic| ((try dsimp only [turnE]); with_reducible refine seq_ ?_))

theorem tLc_inT {t : TE} {g : TG} {tt : TT} {te : TE} {ws : List Nat} {σ : L2.St} {H : Hp} (h : t σ H fun x H1 => ∃ a, x = .ref a ∧ (∃ xs, SqT K H1 a xs) ∧ ∀ D, H1 D = none → LcB (Itt K a) g tt te ws σ H1 D (Q (.ref D))) : tLc (iSeq K t) g tt te ws σ H Q := .inr h
end
end U
namespace U
open PySem PySem.Spec PyProof.Rows L2

/-! ### rows of prices as data, in lists and in tuples -/
/-- a list of lists of prices -/
def GrL (K : PySem.W.Frag) (H : Hp) (p : Addr) (rows : List (List (Option Int))) : Prop := ∃ as : List Addr, SqL K H p (as.map V.ref) ∧ as.length = rows.length ∧
  ∀ (i : Nat) (a : Addr) (r : List (Option Int)), as[i]? = some a → rows[i]? = some r → SqL K H a (r.map pV)
section
variable {K : PySem.W.Frag} {H H' : Hp} {Q : VK}
theorem GrL.same {p : Addr} {rows : List (List (Option Int))} (e : Same H H') (h : GrL K H p rows) : GrL K H' p rows := by
  obtain ⟨as, h1, h2, h3⟩ := h
  exact ⟨as, Same.seq e h1, h2, fun i a r z1 z2 => Same.seq e (h3 i a r z1 z2)⟩
end
end U
namespace U
open PySem PySem.Spec PyProof.Rows L2

/-! ### other yards made of one -/
/-- a way, by its places -/
def waysN : List (Nat × Nat) := [(0, 1), (0, 2), (1, 0), (1, 2), (2, 0), (2, 1)]
def okW (w : Nat × Nat) : Prop := w.1 < 3 ∧ w.2 < 3 ∧ w.1 ≠ w.2
section
variable {K : PySem.W.Frag} (F : KF K) {vs : List V} {H : Hp} {Q : VK} {E : XK}
local macro_rules | `(tactic| walk_at "w") => `(tactic| try simp only [turnE, lcT, Snoc, tRet, tRetN, tAndV, tOrV, tNotV, tCB, tCons, tVar, tNil, tC, tOp, tSeq, tAsg, gName, gSub, tIfS, tDrop, tFn, tTup, tLst, tNext, tB, tTest, tNot, tAnd, tOr, tIf, tChain, tUn, rU, tFld, tPart, tNoPart, L2.tSl, tBM, tPar, tPar3, tTruth, tDNewK,
  L2.start, List.map_cons, List.map_nil, List.length_cons, List.length_nil, List.replicate_succ, List.replicate_zero, List.append_nil, List.nil_append, List.cons_append, List.singleton_append, Nat.sub_self, Nat.zero_add, Nat.reduceAdd, Nat.reduceSub,
  List.getElem?_cons_zero, List.getElem?_cons_succ, List.set_cons_zero, List.set_cons_succ, Option.some.injEq, exists_eq_left, exists_eq_left', V.int.injEq, V.bl.injEq, V.str.injEq, V.ref.injEq,
  uAdd_int, uAdd_str, uSub_int, uMul_int, uMul_str, uDiv_int, uMod_int, uPow_int, uLt_int, uLe_int, uGt_int, uGe_int, uIs_non, uNis_non, uIs_bl, uNis_bl, sp1, sp2, sp3, sp4, uEq_int, uEq_str, uNe_int, uNe_str, uSl_str, uLen_str, decide_eq_true_eq])
local macro_rules | `(tactic| walk_at "1") => `(tactic| try simp only [turnE, lcT, Snoc, tRet, tRetN, tAndV, tOrV, tNotV, tCB, tCons, tVar, tNil, tC, tOp, tAsg, gName, gSub, tIfS, tDrop, tFn, tTup, tLst, tNext, tB, tTest, tNot, tAnd, tOr, tIf, tChain, tUn, rU, tFld, tPart, tNoPart, L2.tSl, tBM, tPar, tPar3, tTruth, tDNewK,
  L2.start, List.map_cons, List.map_nil, List.length_cons, List.length_nil, List.replicate_succ, List.replicate_zero, List.append_nil, List.nil_append, List.cons_append, List.singleton_append, Nat.sub_self, Nat.zero_add, Nat.reduceAdd, Nat.reduceSub,
  List.getElem?_cons_zero, List.getElem?_cons_succ, List.set_cons_zero, List.set_cons_succ, Option.some.injEq, exists_eq_left, exists_eq_left', V.int.injEq, V.bl.injEq, V.str.injEq, V.ref.injEq,
  uAdd_int, uAdd_str, uSub_int, uMul_int, uMul_str, uDiv_int, uMod_int, uPow_int, uLt_int, uLe_int, uGt_int, uGe_int, uIs_non, uNis_non, uIs_bl, uNis_bl, sp1, sp2, sp3, sp4, uEq_int, uEq_str, uNe_int, uNe_str, uSl_str, uLen_str, decide_eq_true_eq])
local macro_rules | `(tactic| walk_at "s") => `(tactic| ((try dsimp only [turnE]); with_reducible refine seq_ ?_))

theorem Yd.ok {p : Addr} {rows : List (List (Option Int))} (h : Yd K H p rows) : RowsOk rows := by
  obtain ⟨_, _, _, _, _, _, l1, l2, _, l3⟩ := h
  exact ⟨l2, l1, l3⟩
/-- a comprehension whose turns make new lists -/
theorem lc_fresh {J : It} {G : Hp → Prop} {xs : List V} (P : Plain J xs G) (f : Nat → List V) {te : TE} {j : Nat} {σ : L2.St} {H : Hp} {D : Addr} {Qd : Hp → Prop} (hD : H D = none) (hl : xs.length ≤ 1000) (hG : ∀ H', Same H H' → G H')
    (hs : ∀ i x H2 (Q : VK), xs[i]? = some x → Same H H2 → (∀ l H3, H2 l = none → Same H2 H3 → H3 l = some (.lst (f i)) → Q (.ref l) H3) → te (σ.set j (some x)) H2 Q)
    (hd : ∀ (H2 : Hp) (ls : List Addr), Same H H2 → ls.length = xs.length → H2 D = some (.lst (ls.map V.ref)) → (∀ (i : Nat) (l : Addr), ls[i]? = some l → H2 l = some (.lst (f i))) → ls.Nodup → D ∉ ls → (∀ l ∈ ls, H l = none) → Qd H2) : LcB J (gName j) tYes te [j] σ H D Qd := by
  refine lc_plain P (fun i H' => Same H H' ∧ ∃ ls : List Addr, H' D = some (.lst (ls.map V.ref)) ∧ ls.length = i ∧ D ∉ ls ∧ (∀ (j : Nat) (a : Addr), ls[j]? = some a → H' a = some (.lst (f j))) ∧ ls.Nodup ∧ ∀ l ∈ ls, H l = none)
    ⟨same_new hD, [], upd_same, rfl, (fun m => nomatch m), (fun j a z => nomatch z), .nil, fun l m => nomatch m⟩ (fun i H' z => hG _ z.1) ?_ (fun H2 ⟨s2, ls, gD, hl, nD, at_, nd, fr⟩ => hd H2 ls s2 hl gD at_ nd nD fr)
  rintro i x H2 hx ⟨s2, ls, gD, hll, nD, at_, nd, fr⟩
  have hi : i < xs.length := (List.getElem?_eq_some_iff.mp hx).1
  show wipe _ [j] = wipe σ [j] ∧ _
  refine ⟨by simp only [wipe, List.set_set], ?_⟩
  show te ((σ.set j none).set j (some x)) H2 _
  rw [List.set_set]
  refine hs i x H2 _ hx s2 fun l H3 nl s3 gl => ?_
  have lD : l ≠ D := by rintro rfl; rw [gD] at nl; cases nl
  have lls : l ∉ ls := fun m => by
    obtain ⟨k, lt, e⟩ := List.mem_iff_getElem.mp m
    have := at_ k l (by rw [← e]; exact List.getElem?_eq_getElem lt)
    rw [this] at nl
    cases nl
  refine ⟨_, s3 _ _ gD, ?_, (Off.trans (Same.off (s2.trans s3)) off_upd).same hD, ls ++ [l], by rw [upd_same]; simp, by simp [hll], ?_, ?_, ?_, ?_⟩
  · rw [List.length_map, hll]
    exact Nat.lt_of_lt_of_le (show i < 1001 by omega) (by decide)
  · rintro m
    rcases List.mem_append.mp m with m | m
    · exact nD m
    · exact lD (List.mem_singleton.mp m).symm
  · rintro k y z1
    have yD : y ≠ D := by
      rintro rfl
      rcases List.mem_append.mp (List.mem_of_getElem? z1) with m | m
      · exact nD m
      · exact lD (List.mem_singleton.mp m).symm
    rw [upd_ne yD]
    by_cases e : k < ls.length
    · rw [List.getElem?_append_left e] at z1
      exact s3 _ _ (at_ k y z1)
    · have e2 : k = ls.length := by
        have := (List.getElem?_eq_some_iff.mp z1).1
        simp at this
        omega
      subst e2
      rw [List.getElem?_append_right (Nat.le_refl _), Nat.sub_self] at z1
      cases z1
      rw [← hll] at gl
      exact gl
  · rw [List.nodup_append]
    refine ⟨nd, by simp, fun x hx y hy => ?_⟩
    rw [List.mem_singleton.mp hy]
    rintro rfl
    exact lls hx
  · intro y m
    rcases List.mem_append.mp m with m | m
    · exact fr y m
    · rw [List.mem_singleton.mp m]
      cases e : H l with
      | none => rfl
      | some o => rw [s2 _ _ e] at nl; cases nl
theorem rev_wd2 (ds : List Nat) (u : Tok) : Txt.sliceBy (wd ds) none none (-1, u) = wd ds.reverse := by
  have ext : ∀ a b : Str, a.cps.toList = b.cps.toList → a = b := fun a b h => by
    obtain ⟨a⟩ := a
    obtain ⟨b⟩ := b
    exact congrArg Str.mk (Array.toList_inj.mp h)
  apply ext
  rw [step_rev_list, wd_length]
  have e : (wd ds.reverse).cps.toList = (ds.map (97 + ·)).reverse := by simp [wd]
  rw [e]
  apply List.ext_getElem
  · simp
  · intro i h1 h2
    simp at h1 h2
    have lt : ds.length - 1 - i < ds.length := by omega
    simp [wd, lt]
theorem waysN_ok : ∀ w ∈ waysN, okW w := by
  unfold okW
  decide
end
end U
namespace U
open PySem PySem.Spec PyProof.Rows L2 TL

/-! ### texts cut at a sign -/
def linesL (l : List Nat) : List (List Nat) := spl [10] 0 [] l
def wordsL (l : List Nat) : List (List Nat) := spl [32] 0 [] l
theorem spl_mem {s : Nat} : ∀ (l acc : List Nat), s ∉ acc → ∀ w ∈ spl [s] 0 acc l, s ∉ w ∧ ∃ p q, acc ++ l = p ++ (w ++ q)
  | [], acc, h, w, m => by
    rw [spl_nil] at m
    rw [List.mem_singleton.mp m]
    exact ⟨h, [], [], by simp⟩
  | c :: r, acc, h, w, m => by
    by_cases e : c = s
    · subst e
      rw [spl_hit (by simp [pre])] at m
      rcases List.mem_cons.mp m with rfl | m
      · exact ⟨h, [], c :: r, by simp⟩
      · obtain ⟨h1, p, q, e⟩ := spl_mem r [] (by simp) w m
        refine ⟨h1, acc ++ [c] ++ p, q, ?_⟩
        have : r = p ++ (w ++ q) := by simpa using e
        rw [this]
        simp
    · rw [spl_miss (pre_of_head _ _ e)] at m
      obtain ⟨h1, p, q, e2⟩ := spl_mem r (acc ++ [c]) (by simp [h]; exact fun z => e z.symm) w m
      exact ⟨h1, p, q, by simpa using e2⟩
/-! ### the longest word of a text -/
def sepc (c : Nat) : Bool := c == 10 || c == 32
def mx : Nat → List Nat → Nat
  | k, [] => k
  | k, c :: r => if sepc c = true then max k (mx 0 r) else mx (k + 1) r
theorem mx_mono : ∀ (l : List Nat) {j k : Nat}, j ≤ k → mx j l ≤ mx k l
  | [], j, k, h => h
  | c :: r, j, k, h => by
    unfold mx
    split
    · omega
    · exact mx_mono r (by omega)
theorem mx_ge : ∀ (l : List Nat) (k : Nat), k ≤ mx k l
  | [], k => Nat.le_refl _
  | c :: r, k => by
    unfold mx
    split
    · omega
    · exact Nat.le_trans (Nat.le_succ k) (mx_ge r (k + 1))
theorem mx_pre : ∀ (a b : List Nat) (k : Nat), mx k a ≤ mx k (a ++ b)
  | [], b, k => mx_ge b k
  | c :: r, b, k => by
    show _ ≤ mx k (c :: (r ++ b))
    unfold mx
    split
    · have := mx_pre r b 0
      omega
    · exact mx_pre r b (k + 1)
theorem mx_suf : ∀ (a b : List Nat) (k : Nat), mx 0 b ≤ mx k (a ++ b)
  | [], b, k => mx_mono b (Nat.zero_le _)
  | c :: r, b, k => by
    show _ ≤ mx k (c :: (r ++ b))
    rw [mx]
    split
    · have := mx_suf r b 0
      omega
    · exact mx_suf r b (k + 1)
theorem mx_free : ∀ (w : List Nat) (k : Nat), (∀ c ∈ w, sepc c = false) → mx k w = k + w.length
  | [], k, _ => rfl
  | c :: r, k, h => by
    rw [mx, if_neg (by rw [h c List.mem_cons_self]; decide), mx_free r (k + 1) fun d m => h d (List.mem_cons_of_mem _ m), List.length_cons]
    omega
theorem word_mx {t l w : List Nat} (hl : l ∈ linesL t) (hw : w ∈ wordsL l) : w.length ≤ mx 0 t := by
  obtain ⟨h1, p, q, e⟩ := spl_mem t [] (by simp) l hl
  obtain ⟨h2, p2, q2, e2⟩ := spl_mem l [] (by simp) w hw
  rw [List.nil_append] at e e2
  have h10 : 10 ∉ w := fun m => h1 (by rw [e2]; simp [m])
  have free : ∀ c ∈ w, sepc c = false := fun c m => by
    unfold sepc
    rw [Bool.or_eq_false_iff]
    refine ⟨?_, ?_⟩
    · exact beq_false_of_ne fun z => h10 (z ▸ m)
    · exact beq_false_of_ne fun z => h2 (z ▸ m)
  have e3 : mx 0 w = w.length := by rw [mx_free w 0 free, Nat.zero_add]
  rw [← e3, e, e2]
  refine Nat.le_trans ?_ (mx_suf p _ 0)
  refine Nat.le_trans ?_ (mx_pre _ q 0)
  refine Nat.le_trans ?_ (mx_suf p2 _ 0)
  exact mx_pre w q2 0
theorem line_part {t l : List Nat} (hl : l ∈ linesL t) : ∃ p q, t = p ++ (l ++ q) := by
  obtain ⟨_, p, q, e⟩ := spl_mem t [] (by simp) l hl
  exact ⟨p, q, e⟩
/-! ### what is the text of a yard -/
/-! ### texts and their signs -/
/-! ### the text of a yard, read again -/
/-! ### texts shown in quotes -/
theorem hex_ok {c : Nat} (k : Nat) : ∀ d ∈ List.replicate k 48 ++ (Nat.toDigits 16 c).map Char.toNat, d < 0x110000 := by
  intro d m
  rcases List.mem_append.mp m with m | m
  · rw [List.eq_of_mem_replicate m]; decide
  · obtain ⟨x, _, rfl⟩ := List.mem_map.mp m
    have := x.valid
    unfold Char.toNat
    rcases this with h | ⟨_, h⟩
    · exact Nat.lt_trans h (by decide)
    · exact h
theorem char_ok {q c : Nat} (hc : c < 0x110000) : ∀ d ∈ Builtin.Str.reprChar q c, d < 0x110000 := by
  intro d m
  unfold Builtin.Str.reprChar at m
  dsimp only at m
  have two : ∀ {a b : Nat}, a < 0x110000 → b < 0x110000 → d ∈ [a, b] → d < 0x110000 := fun ha hb m => by
    rcases List.mem_cons.mp m with rfl | m
    · exact ha
    · rw [List.mem_singleton.mp m]; exact hb
  split at m
  · exact two (by decide) hc m
  split at m
  · exact two (by decide) (by decide) m
  split at m
  · exact two (by decide) (by decide) m
  split at m
  · exact two (by decide) (by decide) m
  split at m
  · rw [List.mem_singleton.mp m]; exact hc
  split at m
  · rcases List.mem_append.mp m with m | m
    · exact two (by decide) (by decide) m
    · exact hex_ok _ d m
  split at m
  · rcases List.mem_append.mp m with m | m
    · exact two (by decide) (by decide) m
    · exact hex_ok _ d m
  · rcases List.mem_append.mp m with m | m
    · exact two (by decide) (by decide) m
    · exact hex_ok _ d m
theorem fold_ok {q : Nat} : ∀ (l : List Nat) (acc : Array Nat), (∀ c ∈ l, c < 0x110000) → (∀ c ∈ acc.toList, c < 0x110000) → ∀ c ∈ (l.foldl (fun out c => out ++ (Builtin.Str.reprChar q c).toArray) acc).toList, c < 0x110000
  | [], acc, _, h => h
  | a :: r, acc, hl, h => by
    rw [List.foldl_cons]
    refine fold_ok r _ (fun c m => hl c (List.mem_cons_of_mem _ m)) fun c m => ?_
    rw [Array.toList_append] at m
    rcases List.mem_append.mp m with m | m
    · exact h c m
    · exact char_ok (hl a List.mem_cons_self) c m
theorem quote_ok (x : Str) : reprQuote x < 0x110000 := by
  unfold reprQuote
  split <;> decide
theorem strOk_iff {x : Str} : PyData.strOk x = true ↔ ∀ c ∈ tl x, c < 0x110000 := by
  show x.cps.all (· < 0x110000) = true ↔ _
  rw [← Array.all_toList]
  rw [List.all_eq_true]
  exact ⟨fun h c m => of_decide_eq_true (h c m), fun h c m => decide_eq_true (h c m)⟩
theorem repr_ok {x : Str} (h : ∀ c ∈ tl x, c < 0x110000) : PyData.strOk (reprText x) = true := by
  rw [strOk_iff]
  unfold reprText
  intro c m
  have m : c ∈ ((x.cps.foldl (fun out c => out ++ (Builtin.Str.reprChar (reprQuote x) c).toArray) #[reprQuote x]).push (reprQuote x)).toList := m
  rw [Array.toList_push] at m
  rcases List.mem_append.mp m with m | m
  · rw [← Array.foldl_toList] at m
    refine fold_ok x.cps.toList _ h (fun d md => ?_) c m
    have : d ∈ [reprQuote x] := md
    rw [List.mem_singleton.mp this]
    exact quote_ok x
  · rw [List.mem_singleton.mp m]
    exact quote_ok x
end U
namespace U
open PySem PySem.Spec PyProof.Rows L2 TL

/-! ### a classmethod called in a try's body -/
section
variable {X : Cx} {CX : CXT} {k : Nat} {C f q g : Addr} {sp : Sp} {Q : VK} {us : List Value} {vs : List V} {pins : List (Addr × Obj)} {σ : L2.St} {H : Hp} {s : Shared}
end
/-! ### int(text), text.split(sign) -/
/-! ### the text of a yard, read again -/
/-- a text that may be read: not too long, its words neither, its signs signs -/
structure Tb (t : List Nat) : Prop where
  len : t.length ≤ 100000
  mx : mx 0 t ≤ 600
  ok : ∀ c ∈ t, c < 0x110000
theorem Tb.word {t l w : List Nat} (h : Tb t) (hl : l ∈ linesL t) (hw : w ∈ wordsL l) : w.length ≤ 640 := Nat.le_trans (word_mx hl hw) (Nat.le_trans h.mx (by decide))
theorem Tb.line {t l : List Nat} (h : Tb t) (hl : l ∈ linesL t) : l.length ≤ 100000 := by
  obtain ⟨p, q, e⟩ := line_part hl
  have := h.len
  have := congrArg List.length e
  simp only [List.length_append] at this
  omega
end U
namespace U
open PySem PySem.Spec PyProof.Rows L2

/-! ### max(ints, default=d) -/
def rMaxDf (K : PySem.W.Frag) : List V → List V → Hp → VK → Prop := fun xs zs H Q => ∃ (a : Addr) (ns : List Int) (d : V), xs = [.ref a] ∧ zs = [d] ∧ SqL K H a (ns.map V.int) ∧ (ns = [] → Q d H) ∧ ∀ m, m ∈ ns → (∀ y ∈ ns, y ≤ m) → Q (.int m) H
theorem reads_ints {h : Heap} : ∀ {ns : List Int} {us : List Value}, Vals (ns.map V.int) us → ReadsAll h us (ns.map PyData.int) [] := by
  intro ns
  induction ns with
  | nil =>
    intro us r
    cases r
    exact .nil
  | cons n t ih =>
    intro us r
    cases r with
    | cons r1 r2 =>
      obtain ⟨u, rfl⟩ := r1
      exact ReadsAll.cons (.int n u) (ih r2)
theorem fold_max : ∀ (t : List Int) (x : Int), t.foldl max x ∈ x :: t ∧ ∀ y ∈ x :: t, y ≤ t.foldl max x := by
  intro t
  induction t with
  | nil =>
    intro x
    refine ⟨List.mem_cons_self, fun y m => ?_⟩
    rw [List.mem_singleton.mp m]
    exact Int.le_refl _
  | cons k r ih =>
    intro x
    obtain ⟨h1, h2⟩ := ih (max x k)
    rw [List.foldl_cons]
    have hb := h2 (max x k) List.mem_cons_self
    refine ⟨?_, fun y m => ?_⟩
    · rcases List.mem_cons.mp h1 with e | m
      · rw [e]
        rcases Int.le_total x k with z | z
        · rw [Int.max_eq_right z]; simp
        · rw [Int.max_eq_left z]; simp
      · exact List.mem_cons_of_mem _ (List.mem_cons_of_mem _ m)
    · rcases List.mem_cons.mp m with rfl | m
      · exact Int.le_trans (Int.le_max_left _ _) hb
      · rcases List.mem_cons.mp m with rfl | m
        · exact Int.le_trans (Int.le_max_right _ _) hb
        · exact h2 y (List.mem_cons_of_mem _ m)
theorem call_maxDf {X : Cx} (hc : X.calm = true) (hu : X.A.units + 64 < cLine) : CallRK X (.builtin "max") ["default"] (rMaxDf X.K) := by
  intro pins s σ H xs zs us ws Q I rx rz h
  obtain ⟨a, ns, d, rfl, rfl, hs, q0, q1⟩ := h
  (obtain ⟨its, rv, hl, _⟩ := I.list hs)
  rw [Vals.ref1 rx]
  obtain ⟨w, rfl, rw⟩ := vals1 rz
  have dep : ∀ l : List Int, PyData.depthAll (l.map PyData.int) = 0 := fun l => by
    induction l with
    | nil => simp [PyData.depthAll]
    | cons x t ih => simp [PyData.depthAll, PyData.depth, ih]
  show wpAny (model X.prog X.w) X.A (call (.builtin "max") [.ref a] [(Str.ofString "default", w)]) _ _ s
  refine PySem.W.max_list_default (xs := ns.map PyData.int) (I.ok.hd hc) hl.isList (reads_ints rv) ⟨fun x mx y my => ?_, fun x mx => ?_⟩ (by rw [dep]; omega) (fun e h' tk k => ?_) (fun y ys i v h' tk bs e _ rd k => ?_)
  · obtain ⟨i, _, rfl⟩ := List.mem_map.mp mx
    obtain ⟨j, _, rfl⟩ := List.mem_map.mp my
    rfl
  · obtain ⟨i, _, rfl⟩ := List.mem_map.mp mx
    exact fun z => nomatch z
  · exact ⟨d, H, I.kept (t' := tk) k, rw, q0 (List.map_eq_nil_iff.mp e)⟩
  · cases ns with
    | nil => cases e
    | cons n t =>
      rw [List.map_cons] at e
      injection e with e1 e2
      subst e1 e2
      rw [PySem.W.maxD_ints] at rd
      obtain ⟨m1, m2⟩ := fold_max t n
      cases rd with
      | int _ u => exact ⟨.int _, H, I.kept (t' := tk) k, ⟨u, rfl⟩, q1 _ m1 m2⟩
/-! ### tuple[::-1] -/
section
variable {prog : Program} {w : World} {A : Around} {E : Value → Shared → Prop} {s : Shared}
theorem fm_congr {f g : Nat → Option Value} : ∀ {l : List Nat}, (∀ m ∈ l, f m = g m) → l.filterMap f = l.filterMap g
  | [], _ => rfl
  | a :: r, h => by
    have i := fm_congr (l := r) fun m hm => h m (List.mem_cons_of_mem _ hm)
    rw [List.filterMap_cons, List.filterMap_cons, h a List.mem_cons_self, i]
theorem all_pick (ys : List Value) : (List.range ys.length).filterMap (fun m => ys[m]?) = ys := by
  induction ys with
  | nil => rfl
  | cons y r ih =>
    rw [List.length_cons, List.range_succ_eq_map, List.filterMap_cons, List.filterMap_map]
    exact congrArg (y :: ·) ih
theorem back_pick (its : Array Value) : ((List.range its.size).filterMap fun (m : Nat) => its[(((its.size : Int) - 1) + (m : Int) * (-1)).toNat]?).toArray = its.toList.reverse.toArray := by
  congr 1
  have e : ∀ m ∈ List.range its.size, its[(((its.size : Int) - 1) + (m : Int) * (-1)).toNat]? = its.toList.reverse[m]? := fun m hm => by
    have lt := List.mem_range.mp hm
    rw [List.getElem?_reverse (by rw [Array.length_toList]; exact lt), Array.length_toList, Array.getElem?_toList]
    congr 1
    omega
  rw [fm_congr e]
  have l : its.size = its.toList.reverse.length := by rw [List.length_reverse, Array.length_toList]
  rw [l]
  exact all_pick _
theorem tup_back {t sl : Addr} {its : Array Value} {vl vu vs : Value} {Q : Value → Shared → Prop} (ht : IsTup s.heap t its) (hs : s.heap.IsSliceOf sl vl vu vs) (pl : IsPart vl none) (pu : IsPart vu none) (ps : IsPart vs (some (-1))) (hz : its.size ≤ sizeLine)
    (h : Q (.ref s.heap.objs.size) { s with heap := s.heap.push { cls := .type "tuple", data := .seq its.toList.reverse.toArray } }) : wpAny (model prog w) A (getItem (.ref t) (.ref sl)) Q E s := by
  obtain ⟨os, at_, cl, dt⟩ := id hs
  have tyS : s.TypeIs (.ref sl) "slice" := ⟨os, at_, cl⟩
  have okz : sizeOk (.seq its.toList.reverse.toArray) := by
    show its.toList.reverse.toArray.size ≤ sizeLine
    rw [List.size_toArray, List.length_reverse, Array.length_toList]
    exact hz
  unfold getItem
  (try with_reducible refine wpAny_holding ?_)
  (first | refine wpAny_bind (wpAny_pure ?_) | skip)
  (refine wpAny_bind (wpAny_sequenceKey ht.typeIs (by decide) ?_))
  refine wpAny_bind (wpAny_callSpecial?_slot (name := Str.ofString "__getitem__") ht.typeIs PyProof.Rows.slot_tuple_getitem (wpAny_call_entry PyProof.Rows.slot_tuple_getitem ht.typeIs entry_tuple_getitem ?_ (args_tuple_getitem _ _)))
  (show wpAny _ _ (Builtin.Tuple.tupleItemsOf (.ref t) >>= _) _ _ s)
  refine wpAny_bind (tupleItemsOf_ ht (wpAny_bind (wpAny_typeOf tyS ?_)))
  rw [if_pos (by decide)]
  refine wpAny_bind ?_
  (unfold Builtin.Slice.sliceApplied Builtin.Slice.sliceFields)
  refine wpAny_bind (wpAny_bind (wpAny_field at_ dt (x := vl) rfl (wpAny_bind (wpAny_field at_ dt (x := vu) rfl (wpAny_bind (wpAny_field at_ dt (x := vs) rfl (wpAny_pure ?_)))))))
  refine wpAny_bind (HT.slicePart_ ps ?_)
  show wpAny _ _ (if ((-1 : Int) == 0) = true then _ else _) _ _ s
  rw [if_neg (show ¬ ((-1 : Int) == 0) = true by decide)]
  refine wpAny_bind (HT.slicePart_ pl (wpAny_bind (HT.slicePart_ pu (wpAny_bind (wpAny_pure ?_)))))
  have e1 : Builtin.Slice.sliceAdjust none none (-1) (its.size : Int) = ((its.size : Int) - 1, -1) := by
    (unfold Builtin.Slice.sliceAdjust)
    rfl
  have e2 : Builtin.Slice.slicePlaces ((its.size : Int) - 1) (-1) (-1) = its.size := by
    (unfold Builtin.Slice.slicePlaces)
    rw [if_neg (by decide)]
    split
    · have : ((its.size : Int) - 1 - -1 - 1) / (- -1) = (its.size : Int) - 1 := by
        have : (- -1 : Int) = 1 := by decide
        rw [this, Int.ediv_one]
        omega
      rw [this]
      omega
    · omega
  show wpAny _ _ (match Builtin.Slice.sliceAdjust none none (-1) (its.size : Int) with | (lo, hi) => pure (lo, (-1 : Int), Builtin.Slice.slicePlaces lo hi (-1))) _ _ s
  rw [e1]
  show wpAny _ _ (pure ((its.size : Int) - 1, (-1 : Int), Builtin.Slice.slicePlaces ((its.size : Int) - 1) (-1) (-1))) _ _ s
  rw [e2]
  refine wpAny_pure ?_
  show wpAny _ _ (if (((its.size : Int) - 1 == 0 && (-1 : Int) == 1 && its.size == its.size)) = true then _ else _) _ _ s
  rw [if_neg (by rw [show ((-1 : Int) == 1) = false from by decide, Bool.and_false, Bool.false_and]; decide), back_pick]
  first
    | exact wpAny_bind (m := Builtin.Tuple.tupleExact _) (wpAny_newObj_type (wpAny_pure ⟨_, rfl, wpAny_pure h⟩) okz)
    | exact wpAny_bind (m := Builtin.Tuple.tupleExact _) (wpAny_newObj_type (wpAny_bind (wpAny_pure (wpAny_pure ⟨_, rfl, wpAny_pure h⟩))) okz)
    | exact wpAny_bind (wpAny_bind (m := Builtin.Tuple.tupleExact _) (wpAny_newObj_type (wpAny_pure (wpAny_pure ⟨_, rfl, wpAny_pure h⟩)) okz))
    | exact wpAny_bind (wpAny_bind (m := Builtin.Tuple.tupleExact _) (wpAny_newObj_type (wpAny_pure ⟨_, rfl, wpAny_pure h⟩) okz))
end
def tRevT (K : PySem.W.Frag) (te : TE) : TE := fun σ H Q => te σ H fun x H1 => ∃ a xs, x = .ref a ∧ SqT K H1 a xs ∧ ∀ p, H1 p = none → Q (.ref p) (upd H1 p (.tup xs.reverse))
theorem pe_revT {X : Cx} {e : Expr} {te : TE} {k : Nat} {p1 p2 p3 pos : Pos} (he : PE X e te) : PE X (.Subscript e (.Slice none none (some (.UnaryOp .USub (.Constant (.int 1) k p1) p2)) p3) pos) (tRevT X.K te) := by
  refine .mk ?_
  intro pins s σ H Q I h
  refine Subscript_ (thn (he.run pins s σ H _ I h) fun v s1 out => ?_)
  obtain ⟨x, H1, I1, r1, a, xs, rfl, hx, q⟩ := out
  cases r1
  have neg1 : PO X (some (.UnaryOp .USub (.Constant (.int 1) k p1) p2)) (tPart (tUn (rU fun i => .int (-i)) (tC (.int 1)))) := po_some (pe_un un_neg pe_int)
  refine wpAny_Slice (thn (po_none.run pins s1 σ H1 (fun o H2 => o = none ∧ H2 = H1) I1 ⟨rfl, rfl⟩) fun vl s2 out => ?_)
  obtain ⟨l, H2, I2, pl, rfl, rfl⟩ := out
  refine thn (po_none.run pins s2 σ H2 (fun o H3 => o = none ∧ H3 = H2) I2 ⟨rfl, rfl⟩) fun vu s3 out => ?_
  obtain ⟨u, H3, I3, pu, rfl, rfl⟩ := out
  refine thn (neg1.run pins s3 σ H3 (fun o H4 => o = some (-1) ∧ H4 = H3) I3 ⟨1, rfl, -1, rfl, rfl, rfl⟩) fun vs s4 out => ?_
  obtain ⟨o, H4, I4, ps, rfl, rfl⟩ := out
  have I5 : Inv X pins σ H4 { s4 with heap := s4.heap.push { cls := .type "slice", data := .fields #[vl, vu, vs] } } := I4.kept (t' := s4.toks) fun b ob z => Heap.get?_push_of_some _ z
  obtain ⟨its, r, ht, hz⟩ := I5.tuple hx
  (have hlen : its.toArray.size = xs.length := by rw [List.size_toArray]; exact r.length.symm)
  (show wpAny (model X.prog X.w) X.A (subscriptTail e (.Slice none none (some (.UnaryOp .USub (.Constant (.int 1) k p1) p2)) p3) (.ref a) (.ref s4.heap.objs.size)) (EP X pins σ Q) X.xe { s4 with heap := s4.heap.push { cls := .type "slice", data := .fields #[vl, vu, vs] } })
  refine tail_any (ops := [.ref a, .ref s4.heap.objs.size]) ht.typeIs PyProof.Rows.slot_tuple_getitem.lookup ?_ (by with_unfolding_all rfl)
  refine tup_back ht (Heap.IsSliceOf.new _ vl vu vs) pl pu ps (by rw [hlen]; exact hz) ?_
  refine ⟨.ref _, _, I5.laid (t' := s4.toks) (o := .tup xs.reverse) (fun b ob z => Heap.get?_push_of_some _ z) (Nat.le_refl _) ?_, rfl, q _ (I5.hok.fresh (Nat.le_refl _))⟩
  exact ⟨by rw [List.length_reverse]; exact hz, _, r.reverse, IsTup.new _ _⟩
end U
namespace U
open PySem PySem.Spec PyProof.Rows L2 TL

section
variable {K : PySem.W.Frag} (F : KF K) {vs : List V} {H : Hp} {Q : VK} {E : XK}
local macro_rules | `(tactic| walk_at "w") => `(tactic| try simp only [turnE, lcT, Snoc, tRet, tRetN, tAndV, tOrV, tNotV, tCB, tCons, tVar, tNil, tC, tOp, tSeq, tAsg, gName, gSub, tIfS, tDrop, tFn, tTup, tLst, tNext, tB, tTest, tNot, tAnd, tOr, tIf, tChain, tUn, rU, tFld, tPart, tNoPart, L2.tSl, tBM, tPar, tPar3, tTruth, tDNewK,
  L2.start, List.map_cons, List.map_nil, List.length_cons, List.length_nil, List.replicate_succ, List.replicate_zero, List.append_nil, List.nil_append, List.cons_append, List.singleton_append, Nat.sub_self, Nat.zero_add, Nat.reduceAdd, Nat.reduceSub,
  List.getElem?_cons_zero, List.getElem?_cons_succ, List.set_cons_zero, List.set_cons_succ, Option.some.injEq, exists_eq_left, exists_eq_left', V.int.injEq, V.bl.injEq, V.str.injEq, V.ref.injEq,
  uAdd_int, uAdd_str, uSub_int, uMul_int, uMul_str, uDiv_int, uMod_int, uPow_int, uLt_int, uLe_int, uGt_int, uGe_int, uIs_non, uNis_non, uIs_bl, uNis_bl, sp1, sp2, sp3, sp4, uEq_int, uEq_str, uNe_int, uNe_str, uSl_str, uLen_str, decide_eq_true_eq])
local macro_rules | `(tactic| walk_at "1") => `(tactic| try simp only [turnE, lcT, Snoc, tRet, tRetN, tAndV, tOrV, tNotV, tCB, tCons, tVar, tNil, tC, tOp, tAsg, gName, gSub, tIfS, tDrop, tFn, tTup, tLst, tNext, tB, tTest, tNot, tAnd, tOr, tIf, tChain, tUn, rU, tFld, tPart, tNoPart, L2.tSl, tBM, tPar, tPar3, tTruth, tDNewK,
  L2.start, List.map_cons, List.map_nil, List.length_cons, List.length_nil, List.replicate_succ, List.replicate_zero, List.append_nil, List.nil_append, List.cons_append, List.singleton_append, Nat.sub_self, Nat.zero_add, Nat.reduceAdd, Nat.reduceSub,
  List.getElem?_cons_zero, List.getElem?_cons_succ, List.set_cons_zero, List.set_cons_succ, Option.some.injEq, exists_eq_left, exists_eq_left', V.int.injEq, V.bl.injEq, V.str.injEq, V.ref.injEq,
  uAdd_int, uAdd_str, uSub_int, uMul_int, uMul_str, uDiv_int, uMod_int, uPow_int, uLt_int, uLe_int, uGt_int, uGe_int, uIs_non, uNis_non, uIs_bl, uNis_bl, sp1, sp2, sp3, sp4, uEq_int, uEq_str, uNe_int, uNe_str, uSl_str, uLen_str, decide_eq_true_eq])
local macro_rules | `(tactic| walk_at "s") => `(tactic| ((try dsimp only [turnE]); with_reducible refine seq_ ?_))

theorem tLc_inN {t : TE} {g : TG} {tt : TT} {te : TE} {vs : List Nat} {σ : L2.St} {H : Hp} {Q : VK} (h : t σ H fun x H1 => ∃ a, x = .ref a ∧ (∃ xs, SqL K H1 a xs) ∧ ∀ D, H1 D = none → LcB (Itl K a) g tt te vs σ H1 D (Q (.ref D))) : tLc (iSeq K t) g tt te vs σ H Q := .inl h
end
end U
namespace U
open PySem PySem.Spec PyProof.Rows L2

/-! ### zip of two of lists and tuples, in any mix but (tuple, list) -/
/-! ### xs[::-1], a list or a tuple -/
def tRevU (K : PySem.W.Frag) (te : TE) : TE := fun σ H Q => tRevL K te σ H Q ∨ tRevT K te σ H Q
theorem pe_revU {X : Cx} {e : Expr} {te : TE} {k : Nat} {p1 p2 p3 pos : Pos} (he : PE X e te) : PE X (.Subscript e (.Slice none none (some (.UnaryOp .USub (.Constant (.int 1) k p1) p2)) p3) pos) (tRevU X.K te) := by
  refine .mk ?_
  intro pins s σ H Q I h
  rcases h with h | h
  · exact (pe_revL he).run pins s σ H Q I h
  · exact (pe_revT he).run pins s σ H Q I h
/-! ### i << j -/
def uShl : R2 := fun x y H Q => match x, y with
  | .int i, .int j => CShl i j ∧ Q (.int (i * 2 ^ j.toNat)) H
  | _, _ => False
theorem op_uShl {X : Cx} : OpR X (binaryOp .LShift) uShl := by
  intro pins s σ H x y u v Q I rx ry h
  cases x <;> cases y <;> first
    | exact (show False from h).elim
    | exact op_shlW pins s σ H _ _ u v Q I rx ry ⟨_, _, rfl, rfl, h⟩
theorem cshl_of {i : Int} {j : Nat} (h : i.natAbs < 10 ^ 33) (hj : j ≤ 1000) : CShl i (j : Nat) := by
  refine ⟨by omega, ?_⟩
  have b : Builtin.Int.intBits i ≤ i.natAbs.log2 + 1 := by
    unfold Builtin.Int.intBits
    split <;> omega
  have l : i.natAbs.log2 < 128 := by
    by_cases z : i.natAbs = 0
    · rw [z]; decide
    · exact (Nat.log2_lt z).mpr (Nat.lt_of_lt_of_le h (by decide))
  have : (2 : Int) ^ 27 = 134217728 := by decide
  omega
end U
namespace U
open PySem PySem.Spec PyProof.Rows L2

/-! ### zip(text, list, list) -/
def Itz3 (K : PySem.W.Frag) (x : Str) (a b : Addr) : It :=
  ⟨fun i H => ∃ xs ys u v, SqL K H a xs ∧ (SqL K H b ys ∧ (i < x.cps.size ∧ (xs[i]? = some u ∧ ys[i]? = some v))),
    fun i H w H' => ∃ T c u v, w = .ref T ∧ (H T = none ∧ (H' = upd H T (.tup [.str ⟨#[c]⟩, u, v]) ∧ (x.cps[i]? = some c ∧ ((∀ xs, SqL K H a xs → xs[i]? = some u) ∧ ∀ ys, SqL K H b ys → ys[i]? = some v)))),
    fun i H => ∃ xs ys, SqL K H a xs ∧ (SqL K H b ys ∧ (i ≤ x.cps.size ∧ (i ≤ xs.length ∧ (i ≤ ys.length ∧ (i = x.cps.size ∨ (i = xs.length ∨ i = ys.length))))))⟩
/-- the six cells, and the two lists -/
structure Z3Cells (z TI TO i1 i2 i3 a b : Addr) : Prop where
  s : ZipSep3 z TI TO i1 i2 i3 [i1] [i2, a] [i3, b]
  a2 : a ≠ i2
  b3 : b ≠ i3
  e1 : TI ≠ TO
theorem not_in1 {x y : Addr} (h : x ≠ y) : x ∉ [y] := fun m => h (List.mem_singleton.mp m)
theorem not_in2 {x y z : Addr} (h : x ≠ y) (g : x ≠ z) : x ∉ [y, z] := fun m => (List.mem_cons.mp m).elim h fun m => g (List.mem_singleton.mp m)
theorem z3_new (n a b : Nat) (la : a < n) (lb : b < n) : Z3Cells (n + 5) (n + 3) (n + 4) n (n + 1) (n + 2) a b where
  s := {
    TIz := by show ¬ ((n + 3 : Nat) = n + 5); omega
    TOz := by show ¬ ((n + 4 : Nat) = n + 5); omega
    TITO := by show ¬ ((n + 3 : Nat) = n + 4); omega
    TIi1 := by show ¬ ((n + 3 : Nat) = n); omega
    mem1 := List.mem_cons_self
    zf1 := not_in1 (by show ¬ ((n + 5 : Nat) = n); omega)
    Tf1 := not_in1 (by show ¬ ((n + 4 : Nat) = n); omega)
    TIi2 := by show ¬ ((n + 3 : Nat) = n + 1); omega
    mem2 := List.mem_cons_self
    zf2 := not_in2 (by show ¬ ((n + 5 : Nat) = n + 1); omega) (by show ¬ ((n + 5 : Nat) = a); omega)
    Tf2 := not_in2 (by show ¬ ((n + 4 : Nat) = n + 1); omega) (by show ¬ ((n + 4 : Nat) = a); omega)
    TIi3 := by show ¬ ((n + 3 : Nat) = n + 2); omega
    mem3 := List.mem_cons_self
    zf3 := not_in2 (by show ¬ ((n + 5 : Nat) = n + 2); omega) (by show ¬ ((n + 5 : Nat) = b); omega)
    Tf3 := not_in2 (by show ¬ ((n + 4 : Nat) = n + 2); omega) (by show ¬ ((n + 4 : Nat) = b); omega)
    sep1_2 := not_in2 (by show ¬ ((n : Nat) = n + 1); omega) (by show ¬ ((n : Nat) = a); omega)
    sep1_3 := not_in2 (by show ¬ ((n : Nat) = n + 2); omega) (by show ¬ ((n : Nat) = b); omega)
    sep2_1 := not_in1 (by show ¬ ((n + 1 : Nat) = n); omega)
    sep2_3 := not_in2 (by show ¬ ((n + 1 : Nat) = n + 2); omega) (by show ¬ ((n + 1 : Nat) = b); omega)
    sep3_1 := not_in1 (by show ¬ ((n + 2 : Nat) = n); omega)
    sep3_2 := not_in2 (by show ¬ ((n + 2 : Nat) = n + 1); omega) (by show ¬ ((n + 2 : Nat) = a); omega) }
  a2 := by show ¬ (a = n + 1); omega
  b3 := by show ¬ (b = n + 2); omega
  e1 := by show ¬ (n + 3 = n + 4); omega
theorem six_in {z TI TO i1 i2 i3 q : Addr} (h : q ∈ [z, TI, TO, i1, i2, i3]) : q = z ∨ (q = TI ∨ (q = TO ∨ (q = i1 ∨ (q = i2 ∨ q = i3)))) := by simpa using h
theorem turn_zip3 {P : Program} {w : World} {K : PySem.W.Frag} {el : List Expr} {kk : Nat} {tp : Pos} {x : Str} {t : Tok} {a b z TI TO i1 i2 i3 : Addr} (C : Z3Cells z TI TO i1 i2 i3 a b) :
    Turn P w K (.Tuple el kk tp) (Itz3 K x a b) [z, TI, TO, i1, i2, i3] z (fun i h => IsZip h z TI TO .none ∧ (IsTupOf3 h TI (.ref i1) (.ref i2) (.ref i3) ∧ ((∃ c u v, IsTupOf3 h TO c u v) ∧ (h.IsStrIter i1 (strIterType x) x t i ∧ (h.IsListIter i2 a i ∧ h.IsListIter i3 b i))))) where
  mem := by simp
  obj := fun i h st c hc => by
    obtain ⟨g1, g2, ⟨_, _, _, g3⟩, ⟨o1, e1, _, d1⟩, ⟨o2, e2, _, d2⟩, ⟨o3, e3, _, d3⟩⟩ := st
    rcases six_in hc with q | q | q | q | q | q <;> rw [q]
    · exact ⟨_, g1, fun v q => nomatch q⟩
    · exact ⟨_, g2, fun v q => nomatch q⟩
    · exact ⟨_, g3, fun v q => nomatch q⟩
    · refine ⟨o1, e1, fun v q => ?_⟩
      rw [d1] at q
      cases q
    · refine ⟨o2, e2, fun v q => ?_⟩
      rw [d2] at q
      cases q
    · refine ⟨o3, e3, fun v q => ?_⟩
      rw [d3] at q
      cases q
  keep := fun i h h' st k => by
    obtain ⟨g1, g2, ⟨c, u, v, g3⟩, ⟨o1, e1, r1⟩, g5, g6⟩ := st
    exact ⟨k _ (by simp) _ g1, k _ (by simp) _ g2, ⟨c, u, v, k _ (by simp) _ g3⟩, ⟨o1, k _ (by simp) _ e1, r1⟩, g5.at fun o y => k _ (by simp) o y, g6.at fun o y => k _ (by simp) o y⟩
  item := by
    intro X hP hw hK hc
    intro i pins s σ H E I hf st hg
    subst hP hw hK
    obtain ⟨g1, g2, ⟨_, _, _, g3⟩, g4, g5, g6⟩ := st
    obtain ⟨xs, ys, u0, v0, qx, qy, hi, hx, hy⟩ := hg
    obtain ⟨us, r1, p1, _⟩ := I.list qx
    obtain ⟨vs, r2, p2, _⟩ := I.list qy
    obtain ⟨u, hu, ru⟩ := r1.get hx
    obtain ⟨v, hv, rv⟩ := r2.get hy
    have zl : z < s.heap.objs.size := Heap.lt_size g1
    have D1 := Draws.text (prog := X.prog) (w := X.w) (A := X.A.in1) (I.ok.hd hc) i1 x t
    have D2 := Draws.list (prog := X.prog) (w := X.w) (A := X.A.in1) (I.ok.hd hc) i2 a C.a2 us.toArray
    have D3 := Draws.list (prog := X.prog) (w := X.w) (A := X.A.in1) (I.ok.hd hc) i3 b C.b3 vs.toArray
    have lu : i < us.toArray.size := by simpa using (List.getElem?_eq_some_iff.mp hu).1
    have lv : i < vs.toArray.size := by simpa using (List.getElem?_eq_some_iff.mp hv).1
    refine wpAny_pyNext_zipD3_item C.s D1 D2 D3 g1 g2 g3 g4 ⟨g5, p1.isList⟩ ⟨g6, p2.isList⟩ hi lu lv fun y1 y2 y3 h1 tk ec ex ey z1 t1 s1 s2 s3 hT hsz hk => ?_
    obtain ⟨c, tc, hcp, rfl⟩ := ec
    obtain rfl : y2 = u := by
      have ex : us.toArray[i]? = some y2 := ex
      simp [hu] at ex
      exact ex.symm
    obtain rfl : y3 = v := by
      have ey : vs.toArray[i]? = some y3 := ey
      simp [hv] at ey
      exact ey.symm
    refine ⟨_, rfl, wpAny_letOwnedTupleGo_zip (s := { s with heap := h1, toks := tk }) z1 fun h2 z2 sb => ?_⟩
    have T2 : h2.get? s.heap.objs.size = some { cls := .type "tuple", data := .seq #[.str ⟨#[c]⟩ tc, y2, y3] } := (sb.2 _ (Nat.ne_of_gt zl)).trans hT
    have rc : RelV (.str ⟨#[c]⟩) (Value.str ⟨#[c]⟩ tc) := ⟨tc, rfl⟩
    have new : ObjOk X.prog X.w (upd H s.heap.objs.size (.tup [.str ⟨#[c]⟩, u0, v0])) h2 s.heap.objs.size (.tup [.str ⟨#[c]⟩, u0, v0]) := ⟨by show 3 ≤ sizeLine; decide, [.str ⟨#[c]⟩ tc, y2, y3], .cons rc (.cons ru (.cons rv .nil)), ⟨_, T2, rfl, _, rfl⟩⟩
    have k2 : ∀ d o, d ≠ z → d ≠ TO → d ≠ i1 → d ≠ i2 → d ≠ i3 → s.heap.get? d = some o → h2.get? d = some o := fun d o c1 c2 c3 c4 c5 e => (sb.2 d c1).trans (hk d o c1 c2 c3 c4 c5 e)
    have I1 : Inv X pins σ (upd H s.heap.objs.size (.tup [.str ⟨#[c]⟩, u0, v0])) { s with heap := h2, toks := tk } :=
      I.turnedNew (ch := [z, TI, TO, i1, i2, i3]) (fun d o hb => k2 d o (fun e => hb (by simp [e])) (fun e => hb (by simp [e])) (fun e => hb (by simp [e])) (fun e => hb (by simp [e])) fun e => hb (by simp [e])) hf (Nat.le_refl _) new
    refine ⟨.ref s.heap.objs.size, _, I1, rfl, ⟨_, c, u0, v0, rfl, I.hok.fresh (Nat.le_refl _), rfl, hcp, fun l hl => ?_, fun l hl => ?_⟩, ⟨z2, k2 _ _ C.s.TIz C.e1 C.s.TIi1 C.s.TIi2 C.s.TIi3 g2, ⟨_, _, _, (sb.2 _ C.s.TOz).trans t1⟩, ?_, ?_, ?_⟩, fun d hcm => ?_⟩
    · rw [I.list_inj hl qx]
      exact hx
    · rw [I.list_inj hl qy]
      exact hy
    · obtain ⟨o, ho, r⟩ := s1
      exact ⟨o, (sb.2 _ C.s.zi1.symm).trans ho, r⟩
    · exact s2.1.at fun o q => (sb.2 _ C.s.zi2.symm).trans q
    · exact s3.1.at fun o q => (sb.2 _ C.s.zi3.symm).trans q
    · have below : d < s.heap.objs.size := by
        rcases six_in hcm with q | q | q | q | q | q
        · exact q ▸ zl
        · exact q ▸ Heap.lt_size g2
        · exact q ▸ Heap.lt_size g3
        · obtain ⟨_, e, _⟩ := g4
          exact q ▸ Heap.lt_size e
        · obtain ⟨_, e, _⟩ := g5
          exact q ▸ Heap.lt_size e
        · obtain ⟨_, e, _⟩ := g6
          exact q ▸ Heap.lt_size e
      rw [upd_ne (Nat.ne_of_lt below)]
      exact (hf d hcm).1
  done := by
    intro X hP hw hK hc
    intro i pins s σ H E I hf st hg
    subst hP hw hK
    obtain ⟨g1, g2, ⟨_, _, _, g3⟩, g4, g5, g6⟩ := st
    obtain ⟨xs, ys, qx, qy, l0, l1, l2, l3⟩ := hg
    obtain ⟨us, r1, p1, _⟩ := I.list qx
    obtain ⟨vs, r2, p2, _⟩ := I.list qy
    have e1 := r1.length
    have e2 := r2.length
    have D1 := Draws.text (prog := X.prog) (w := X.w) (A := X.A.in1) (I.ok.hd hc) i1 x t
    have D2 := Draws.list (prog := X.prog) (w := X.w) (A := X.A.in1) (I.ok.hd hc) i2 a C.a2 us.toArray
    have D3 := Draws.list (prog := X.prog) (w := X.w) (A := X.A.in1) (I.ok.hd hc) i3 b C.b3 vs.toArray
    refine wpAny_pyNext_zipD3_end C.s D1 D2 D3 g1 g2 g3 g4 ⟨g5, p1.isList⟩ ⟨g6, p2.isList⟩ l0 (by simp; omega) (by simp; omega) (by simp; omega) fun h1 tk hk => ⟨rfl, I.turnedL (ch := [z, TI, TO, i1, i2, i3]) (fun d o hb => hk d o (fun e => hb (by simp [e])) (fun e => hb (by simp [e])) (fun e => hb (by simp [e])) (fun e => hb (by simp [e])) fun e => hb (by simp [e])) hf⟩
  self := fun _ _ _ _ _ st h => wpAny_pyIter_zip st.1 h
def iZip3 (K : PySem.W.Frag) (ta : TA) : TI := fun σ H R => ta σ H fun vs H1 => ∃ x a b xs ys, vs = [.str x, .ref a, .ref b] ∧ (SqL K H1 a xs ∧ (SqL K H1 b ys ∧ R (Itz3 K x a b) H1))
theorem pi_zip3 {X : Cx} {f1 f2 f3 : Expr} {ta : TA} {p pos tpos : Pos} {elts : List Expr} {kk : Nat} (hg : Gl X "zip") (hm : X.mg "zip" = none) (ha : PA X [f1, f2, f3] ta)
    (hs : starEach [f1, f2, f3] X.env = (false, eval f1 X.env) :: starEach [f2, f3] X.env := by rfl) (hpl : (backTo pos (starEach [f2, f3] X.env)).any (·.1) = false := by rfl) :
    PI X (.Tuple elts kk tpos) (.Call (.Name "zip" p) [f1, f2, f3] [] pos) (iZip3 X.K ta) := by
  refine .mk ?_
  intro pins s σ H R I h
  refine Call_ (ld_blt I hg hm boot_zip (PyProof.Rows.callWith_type1 (thn (ha.run pos pins s σ H _ I h) fun us s1 q0 => ?_) hs hpl))
  obtain ⟨vs, H1, I1, r1, x, a, b, xs, ys, ex, qx, qy, q⟩ := q0
  subst ex
  obtain ⟨t, rfl⟩ : ∃ t, us = [.str x t, .ref a, .ref b] := by
    cases r1 with
    | cons r r2 =>
      cases r2 with
      | cons r' r3 =>
        cases r3 with
        | cons r'' r4 =>
          cases r4
          obtain ⟨t, rfl⟩ := r
          cases r'
          cases r''
          exact ⟨t, rfl⟩
  obtain ⟨xv, rv, p1, _⟩ := I1.list qx
  obtain ⟨yv, rw', p2, _⟩ := I1.list qy
  refine zip_begins3 (begins_text x t) (begins_list a xv.toArray) (begins_list b yv.toArray) trivial p1.isList p2.isList fun h1 hz hTI hTO g1 g2 g3 hsz hk => wpAny_pyIter_zip hz ?_
  have I2 : Inv X pins σ H1 { s1 with heap := h1 } := I1.kept (t' := s1.toks) hk
  have C : Z3Cells (s1.heap.objs.size + 5) (s1.heap.objs.size + 3) (s1.heap.objs.size + 4) s1.heap.objs.size (s1.heap.objs.size + 1) (s1.heap.objs.size + 2) a b := z3_new s1.heap.objs.size a b p1.lt p2.lt
  refine ⟨s1.heap.objs.size + 5, [s1.heap.objs.size + 5, s1.heap.objs.size + 3, s1.heap.objs.size + 4, s1.heap.objs.size, s1.heap.objs.size + 1, s1.heap.objs.size + 2], _, _, H1, rfl, I2, turn_zip3 (x := x) (t := t) C, ⟨hz, hTI, ⟨_, _, _, hTO⟩, ⟨_, g1, rfl, rfl⟩, ⟨_, g2, rfl, rfl⟩, ⟨_, g3, rfl, rfl⟩⟩, fun c hcm => ?_, q⟩
  have above : s1.heap.objs.size ≤ c := by
    rcases six_in hcm with e | e | e | e | e | e <;> rw [e]
    · exact Nat.le_add_right _ 5
    · exact Nat.le_add_right _ 3
    · exact Nat.le_add_right _ 4
    · exact Nat.le_refl _
    · exact Nat.le_add_right _ 1
    · exact Nat.le_add_right _ 2
  exact I1.fpOk above (I1.hok.fresh above)
/-! ### a loop over such threes -/
theorem for_zip3 {K : PySem.W.Frag} {x : Str} {a b : Addr} {xs ys : List V} {wi : TI} {g : TG} {tb : TS} {D : Ends} {σ : L2.St} {H : Hp} (hw : ∀ R : It → Hp → Prop, R (Itz3 K x a b) H → wi σ H R) (lx : x.cps.size ≤ xs.length) (ly : x.cps.size ≤ ys.length) (Pv : Nat → L2.St → Hp → Prop) (h0 : Pv 0 σ H) (hG : ∀ i τ H', Pv i τ H' → SqL K H' a xs ∧ SqL K H' b ys)
    (hs : ∀ i c u v τ H' T, x.cps[i]? = some c → xs[i]? = some u → ys[i]? = some v → Pv i τ H' → H' T = none → g (.ref T) τ (upd H' T (.tup [.str ⟨#[c]⟩, u, v])) fun ρ H2 => tb (turnE D (Pv (i + 1))) ρ H2) (hd : ∀ τ H', Pv x.cps.size τ H' → D.nx τ H') : tFor wi g tb D σ H := by
  refine hw _ ?_
  refine ⟨fun i m τ H' => m = x.cps.size - i ∧ (i ≤ x.cps.size ∧ Pv i τ H'), ⟨_, rfl, Nat.zero_le _, h0⟩, ?_⟩
  rintro i m τ H' ⟨rfl, hi, p⟩
  obtain ⟨q1, q2⟩ := hG i τ H' p
  by_cases lt : i < x.cps.size
  · refine .inr ⟨⟨xs, ys, xs[i], ys[i], q1, q2, lt, List.getElem?_eq_getElem (by omega), List.getElem?_eq_getElem (by omega)⟩, Pv (i + 1), fun σ' H2 p' => ⟨x.cps.size - (i + 1), by omega, rfl, lt, p'⟩, fun v H2 yd => ?_⟩
    obtain ⟨T, c, u, w, rfl, nT, rfl, hc, e1, e2⟩ := yd
    exact hs i c u w τ H' T hc (e1 xs q1) (e2 ys q2) p nT
  · have e : i = x.cps.size := by omega
    subst e
    exact .inl ⟨⟨xs, ys, q1, q2, Nat.le_refl _, by omega, ly, .inl rfl⟩, hd τ H' p⟩
end U
namespace U
open PySem PySem.Spec PyProof.Rows L2

/-! ### != of two lists whose items are all alike, within one model -/
section
open PySem.SeqAt AutoSeq1 MeetsSeq MeetsSeq2 MeetsSeq3 SeqRoads2
variable {prog : Program} {w : World} -- both
end
/-! ### min of pairs of a number and a text -/
end U
namespace U
open PySem PySem.Spec PySem.Calls PyProof.Rows L2

/-! ### f(k = v, ..): all arguments by their names -/
section
variable {X : Cx} {CX : CXT} {k : Nat} {x : Str} {fd : FuncData} {f : Addr} {ps ks : List Str} {sp : Sp} {E : XK} {p pos : Pos} {kws : List Keyword} {tk : TA} {g : List Value → List Value → List Value} {gV : List V → List V → List V}
end
/-! ### len of a dict -/
end U
namespace U
open PySem PySem.Spec PyProof.Rows L2

/-! ### levels: six numbers, by two places -/
def six {α : Type} (f : Nat → Nat → α) : List α := waysN.map fun w => f w.1 w.2
/-- the two lines of a crate -/
def lineS (p D : Nat → Nat → Int) (i j : Nat) : Int := D i (3 - i - j) + p i j + D (3 - i - j) j
def lineT2 (p D : Nat → Nat → Int) (i j : Nat) : Int := D i j + p i (3 - i - j) + D j i + p (3 - i - j) j + D i j
def stepN (p D : Nat → Nat → Int) (i j : Nat) : Int := min (lineS p D i j) (lineT2 p D i j)
def levelN : List (Nat → Nat → Int) → Nat → Nat → Int
  | [], _, _ => 0
  | p :: r, i, j => stepN p (levelN r) i j
/-! ### the same with None -/
/-- a number stands for a cost -/
def Stands (B M : Int) (c : Option Int) (n : Int) : Prop := match c with
  | some v => n = v ∧ 0 ≤ v ∧ v ≤ M
  | none => B ≤ n
theorem Stands.mono {B M M' : Int} {c : Option Int} {n : Int} (h : Stands B M c n) (hM : M ≤ M') : Stands B M' c n := by
  cases c with
  | none => exact h
  | some v => obtain ⟨h1, h2, h3⟩ := h; exact ⟨h1, h2, by omega⟩
theorem Stands.told {B M : Int} {c : Option Int} {n : Int} (h : Stands B M c n) (hM : M < B) : (if n < B then some n else none) = c := by
  cases c with
  | none => have h : B ≤ n := h; rw [if_neg (by omega)]
  | some v => obtain ⟨h1, h2, h3⟩ := h; rw [if_pos (by omega), h1]
end U
namespace U
open PySem PySem.Spec PyProof.Rows L2

def iV (ns : List Int) : List V := ns.map V.int
def sp_turned (K : PySem.W.Frag) : Sp := sp1 fun x H Q _ => ∃ p f, x = .ref p ∧ SqT K H p (iV (six f)) ∧ ∀ r H', Same H H' → H r = none → H' r = some (.tup (iV (six fun i j => f j i))) → Q (.ref r) H'
def sp_towers_above (K : PySem.W.Frag) : Sp := sp2 fun x y H Q _ => ∃ p q f g, x = .ref p ∧ y = .ref q ∧ SqT K H p (iV (six f)) ∧ SqT K H q (iV (six g)) ∧ ∀ r H', Same H H' → H r = none → H' r = some (.tup (iV (six (stepN f g)))) → Q (.ref r) H'
/-- from a place to all three -/
def dd (D : Nat → Nat → Int) (i j : Nat) : Int := if i = j then 0 else D i j
def three (f : Nat → Int) : List Int := [f 0, f 1, f 2]
def Each (H : Hp) (r : Addr) (D : Nat → Nat → Int) : Prop := ∃ q0 q1 q2, H r = some (.dK [(.inr "a", .ref q0), (.inr "b", .ref q1), (.inr "c", .ref q2)]) ∧ H q0 = some (.tup (iV (three (dd D 0)))) ∧ H q1 = some (.tup (iV (three (dd D 1)))) ∧ H q2 = some (.tup (iV (three (dd D 2))))
def sp_from_each_tower (K : PySem.W.Frag) : Sp := sp1 fun x H Q _ => ∃ p D, x = .ref p ∧ SqT K H p (iV (six D)) ∧ ∀ r H', Same H H' → H r = none → Each H' r D → Q (.ref r) H'
def bl1 (p : Nat → Nat → Int) (u v : Nat → Int) (i j : Nat) : Int := u (3 - i - j) + p i j + v (3 - i - j)
def bl2 (p D : Nat → Nat → Int) (u v : Nat → Int) (i j : Nat) : Int := u j + p i (3 - i - j) + D j i + p (3 - i - j) j + v i
def sp_both_lines (K : PySem.W.Frag) : Sp := sp5' fun w x y z t H Q _ => ∃ i j px py pz pt f D u v, w = .str (wd [i, j]) ∧ i < 3 ∧ j < 3 ∧ i ≠ j ∧ x = .ref px ∧ y = .ref py ∧ z = .ref pz ∧ t = .ref pt ∧ SqT K H px (iV (six f)) ∧ SqT K H py (iV (six D)) ∧ SqT K H pz (iV (three u)) ∧ SqT K H pt (iV (three v)) ∧
  ∀ r H', Same H H' → H r = none → H' r = some (.tup (iV [bl1 f u v i j, bl2 f D u v i j])) → Q (.ref r) H'
where sp5' (f : V → V → V → V → V → Hp → VK → XK → Prop) : Sp := fun vs H Q E => match vs with
  | [x, y, z, u, v] => f x y z u v H Q E
  | _ => False
def t_turned (K : PySem.W.Frag) (E : XK) : TS := (tSeq (tAsg (tVar 0) (gTup K 6 (gCons (gName 1) (gCons (gName 2) (gCons (gName 3) (gCons (gName 4) (gCons (gName 5) (gCons (gName 6) gNil)))))))) (tRet (tTup (tCons (tVar 3) (tCons (tVar 5) (tCons (tVar 1) (tCons (tVar 6) (tCons (tVar 2) (tCons (tVar 4) tNil)))))))))
def t_towers_above (K : PySem.W.Frag) (E : XK) : TS := (tSeq (tAsg (tVar 1) (gTup K 6 (gCons (gName 2) (gCons (gName 3) (gCons (gName 4) (gCons (gName 5) (gCons (gName 6) (gCons (gName 7) gNil)))))))) (tSeq (tAsg (tVar 0) (gTup K 6 (gCons (gName 8) (gCons (gName 9) (gCons (gName 10) (gCons (gName 11) (gCons (gName 12) (gCons (gName 13) gNil)))))))) (tRet (tTup (tCons (tCB uMin2 (tCons (tOp uAdd (tOp uAdd (tVar 3) (tVar 8)) (tVar 7)) (tCons (tOp uAdd (tOp uAdd (tOp uAdd (tOp uAdd (tVar 2) (tVar 9)) (tVar 4)) (tVar 13)) (tVar 2)) tNil))) (tCons (tCB uMin2 (tCons (tOp uAdd (tOp uAdd (tVar 2) (tVar 9)) (tVar 5)) (tCons (tOp uAdd (tOp uAdd (tOp uAdd (tOp uAdd (tVar 3) (tVar 8)) (tVar 6)) (tVar 11)) (tVar 3)) tNil))) (tCons (tCB uMin2 (tCons (tOp uAdd (tOp uAdd (tVar 5) (tVar 10)) (tVar 6)) (tCons (tOp uAdd (tOp uAdd (tOp uAdd (tOp uAdd (tVar 4) (tVar 11)) (tVar 2)) (tVar 12)) (tVar 4)) tNil))) (tCons (tCB uMin2 (tCons (tOp uAdd (tOp uAdd (tVar 4) (tVar 11)) (tVar 3)) (tCons (tOp uAdd (tOp uAdd (tOp uAdd (tOp uAdd (tVar 5) (tVar 10)) (tVar 7)) (tVar 9)) (tVar 5)) tNil))) (tCons (tCB uMin2 (tCons (tOp uAdd (tOp uAdd (tVar 7) (tVar 12)) (tVar 4)) (tCons (tOp uAdd (tOp uAdd (tOp uAdd (tOp uAdd (tVar 6) (tVar 13)) (tVar 3)) (tVar 10)) (tVar 6)) tNil))) (tCons (tCB uMin2 (tCons (tOp uAdd (tOp uAdd (tVar 6) (tVar 13)) (tVar 2)) (tCons (tOp uAdd (tOp uAdd (tOp uAdd (tOp uAdd (tVar 7) (tVar 12)) (tVar 5)) (tVar 8)) (tVar 7)) tNil))) tNil))))))))))
def t_from_each_tower (K : PySem.W.Frag) (E : XK) : TS := (tSeq (tAsg (tVar 0) (gTup K 6 (gCons (gName 1) (gCons (gName 2) (gCons (gName 3) (gCons (gName 4) (gCons (gName 5) (gCons (gName 6) gNil)))))))) (tRet (tDisp [((tC (.str "a")), (tTup (tCons (tC (.int 0)) (tCons (tVar 1) (tCons (tVar 2) tNil))))), ((tC (.str "b")), (tTup (tCons (tVar 3) (tCons (tC (.int 0)) (tCons (tVar 4) tNil))))), ((tC (.str "c")), (tTup (tCons (tVar 5) (tCons (tVar 6) (tCons (tC (.int 0)) tNil)))))])))
def t_both_lines (K : PySem.W.Frag) (E : XK) : TS := (tSeq (tAsg (tOp (rTurn K) (tC (.ref (He.ga K "_TURNS"))) (tVar 0)) (gTup K 7 (gCons (gName 5) (gCons (gName 6) (gCons (gName 7) (gCons (gName 8) (gCons (gName 9) (gCons (gName 10) (gCons (gName 11) gNil))))))))) (tRet (tTup (tCons (tOp uAdd (tOp uAdd (tOp (uIx K) (tVar 3) (tVar 11)) (tOp (uIx K) (tVar 1) (tVar 5))) (tOp (uIx K) (tVar 4) (tVar 11))) (tCons (tOp uAdd (tOp uAdd (tOp uAdd (tOp uAdd (tOp (uIx K) (tVar 3) (tVar 10)) (tOp (uIx K) (tVar 1) (tVar 6))) (tOp (uIx K) (tVar 2) (tVar 8))) (tOp (uIx K) (tVar 1) (tVar 7))) (tOp (uIx K) (tVar 4) (tVar 9))) tNil)))))
section
variable {K : PySem.W.Frag} (F : KF K) {vs : List V} {H : Hp} {Q : VK} {E : XK}
local macro_rules | `(tactic| walk_at "w") => `(tactic| try simp only [turnE, lcT, Snoc, tRet, tRetN, tAndV, tOrV, tNotV, tCB, tCons, tVar, tNil, tC, tOp, tSeq, tAsg, gName, gSub, tIfS, tDrop, tFn, tTup, tLst, tNext, tB, tTest, tNot, tAnd, tOr, tIf, tChain, tUn, rU, tFld, tPart, tNoPart, L2.tSl, tBM, tPar, tPar3, tTruth, tDNewK,
  L2.start, List.map_cons, List.map_nil, List.length_cons, List.length_nil, List.replicate_succ, List.replicate_zero, List.append_nil, List.nil_append, List.cons_append, List.singleton_append, Nat.sub_self, Nat.zero_add, Nat.reduceAdd, Nat.reduceSub,
  List.getElem?_cons_zero, List.getElem?_cons_succ, List.set_cons_zero, List.set_cons_succ, Option.some.injEq, exists_eq_left, exists_eq_left', V.int.injEq, V.bl.injEq, V.str.injEq, V.ref.injEq,
  uAdd_int, uAdd_str, uSub_int, uMul_int, uMul_str, uDiv_int, uMod_int, uPow_int, uLt_int, uLe_int, uGt_int, uGe_int, uIs_non, uNis_non, uIs_bl, uNis_bl, sp1, sp2, sp3, sp4, uEq_int, uEq_str, uNe_int, uNe_str, uSl_str, uLen_str, decide_eq_true_eq])
local macro_rules | `(tactic| walk_at "1") => `(tactic| try simp only [turnE, lcT, Snoc, tRet, tRetN, tAndV, tOrV, tNotV, tCB, tCons, tVar, tNil, tC, tOp, tAsg, gName, gSub, tIfS, tDrop, tFn, tTup, tLst, tNext, tB, tTest, tNot, tAnd, tOr, tIf, tChain, tUn, rU, tFld, tPart, tNoPart, L2.tSl, tBM, tPar, tPar3, tTruth, tDNewK,
  L2.start, List.map_cons, List.map_nil, List.length_cons, List.length_nil, List.replicate_succ, List.replicate_zero, List.append_nil, List.nil_append, List.cons_append, List.singleton_append, Nat.sub_self, Nat.zero_add, Nat.reduceAdd, Nat.reduceSub,
  List.getElem?_cons_zero, List.getElem?_cons_succ, List.set_cons_zero, List.set_cons_succ, Option.some.injEq, exists_eq_left, exists_eq_left', V.int.injEq, V.bl.injEq, V.str.injEq, V.ref.injEq,
  uAdd_int, uAdd_str, uSub_int, uMul_int, uMul_str, uDiv_int, uMod_int, uPow_int, uLt_int, uLe_int, uGt_int, uGe_int, uIs_non, uNis_non, uIs_bl, uNis_bl, sp1, sp2, sp3, sp4, uEq_int, uEq_str, uNe_int, uNe_str, uSl_str, uLen_str, decide_eq_true_eq])
local macro_rules | `(tactic| walk_at "s") => `(tactic| ((try dsimp only [turnE]); with_reducible refine seq_ ?_))

theorem min_int {a b : Int} : (if b < a then b else a) = min a b := by
  by_cases h : b < a
  · rw [if_pos h]; omega
  · rw [if_neg h]; omega
/-- a tuple of n numbers in n names -/
theorem un1 {i : Nat} {u : TGs} {v : V} {r : List V} {σ : L2.St} {Q : L2.St → Hp → Prop} (h : u r (σ.set i (some v)) H Q) : gCons (gName i) u (v :: r) σ H Q := ⟨v, r, rfl, h⟩
theorem un0 {σ : L2.St} {Q : L2.St → Hp → Prop} (h : Q σ H) : gNil [] σ H Q := ⟨rfl, h⟩
include F in
theorem read_turned (h : sp_turned K vs H Q E) : t_turned K E { nx := fun _ H' => Q .non H', rt := Q } (start ["six", "ab", "ac", "ba", "bc", "ca", "cb"] vs) H := by
  match vs, h with
  | [_], ⟨p, f, rfl, hp, q⟩ =>
    unfold t_turned
    walk_at "s"
    walk_at "1"
    refine ⟨p, _, rfl, hp, rfl, un1 (un1 (un1 (un1 (un1 (un1 (un0 ?_))))))⟩
    walk_at "1"
    exact ⟨by decide, fun r hr => q r _ (same_new hr) hr upd_same⟩
include F in
theorem read_towers_above (h : sp_towers_above K vs H Q E) : t_towers_above K E { nx := fun _ H' => Q .non H', rt := Q } (start ["prices", "below", "ab", "ac", "ba", "bc", "ca", "cb", "price_ab", "price_ac", "price_ba", "price_bc", "price_ca", "price_cb"] vs) H := by
  match vs, h with
  | [_, _], ⟨p, b, f, g, rfl, rfl, hp, hb, q⟩ =>
    unfold t_towers_above
    walk_at "s"
    walk_at "1"
    refine ⟨b, _, rfl, hb, rfl, un1 (un1 (un1 (un1 (un1 (un1 (un0 ?_))))))⟩
    walk_at "s"
    walk_at "1"
    refine ⟨p, _, rfl, hp, rfl, un1 (un1 (un1 (un1 (un1 (un1 (un0 ?_))))))⟩
    walk_at "1"
    refine ⟨_, _, rfl, ⟨_, _, rfl, ⟨_, _, rfl, ⟨_, _, rfl, ⟨_, _, rfl, ⟨_, _, rfl, ⟨by decide, fun r hr => q r _ (same_new hr) hr ?_⟩⟩⟩⟩⟩⟩⟩
    rw [upd_same]
    simp only [min_int]
    rfl
include F in
theorem read_from_each_tower (h : sp_from_each_tower K vs H Q E) : t_from_each_tower K E { nx := fun _ H' => Q .non H', rt := Q } (start ["towers", "ab", "ac", "ba", "bc", "ca", "cb"] vs) H := by
  match vs, h with
  | [_], ⟨p, D, rfl, hp, q⟩ =>
    unfold t_from_each_tower
    walk_at "s"
    walk_at "1"
    refine ⟨p, _, rfl, hp, rfl, un1 (un1 (un1 (un1 (un1 (un1 (un0 ?_))))))⟩
    simp only [tRet, tDisp, tPairs]
    walk_at "1"
    refine fun d nd => ⟨by decide, fun q0 n0 => ⟨by decide, fun q1 n1 => ⟨by decide, fun q2 n2 => ?_⟩⟩⟩
    have o1 : Off d H (upd H d (.dK [])) := off_upd
    have g0 : upd H d (.dK []) d = some (.dK []) := upd_same
    generalize upd H d (.dK []) = H1 at *
    have s2 : Same H1 (upd H1 q0 (.tup (iV (three (dd D 0))))) := same_new n0
    have g2 : upd H1 q0 (.tup (iV (three (dd D 0)))) q0 = some (.tup (iV (three (dd D 0)))) := upd_same
    change upd H1 q0 (.tup (iV (three (dd D 0)))) q1 = none at n1
    change upd (upd H1 q0 (.tup (iV (three (dd D 0))))) q1 (.tup (iV (three (dd D 1)))) q2 = none at n2
    show upd (upd (upd H1 q0 (.tup (iV (three (dd D 0))))) q1 (.tup (iV (three (dd D 1))))) q2 (.tup (iV (three (dd D 2)))) d = _ ∧ ∃ kvs, _ ∧ _ ∧ Q (.ref d) (upd (upd (upd (upd H1 q0 (.tup (iV (three (dd D 0))))) q1 (.tup (iV (three (dd D 1))))) q2 (.tup (iV (three (dd D 2))))) d (.dK (mergeK [] kvs)))
    generalize upd H1 q0 (.tup (iV (three (dd D 0)))) = H2 at *
    have s3 : Same H2 (upd H2 q1 (.tup (iV (three (dd D 1))))) := same_new n1
    have g3 : upd H2 q1 (.tup (iV (three (dd D 1)))) q1 = some (.tup (iV (three (dd D 1)))) := upd_same
    generalize upd H2 q1 (.tup (iV (three (dd D 1)))) = H3 at *
    have s4 : Same H3 (upd H3 q2 (.tup (iV (three (dd D 2))))) := same_new n2
    have g4 : upd H3 q2 (.tup (iV (three (dd D 2)))) q2 = some (.tup (iV (three (dd D 2)))) := upd_same
    generalize upd H3 q2 (.tup (iV (three (dd D 2)))) = H4 at *
    have s14 := s2.trans (s3.trans s4)
    have gd := s14 _ _ g0
    have nd0 : ∀ {c : Addr} {xs : List V}, H4 c = some (.tup xs) → c ≠ d := fun e z => by rw [z, gd] at e; cases e
    refine ⟨gd, [(.inr "a", .ref q0), (.inr "b", .ref q1), (.inr "c", .ref q2)], rfl, Nat.le_of_ble_eq_true rfl, ?_⟩
    rw [show mergeK [] [((.inr "a" : Key), V.ref q0), (.inr "b", .ref q1), (.inr "c", .ref q2)] = [(.inr "a", .ref q0), (.inr "b", .ref q1), (.inr "c", .ref q2)] from rfl]
    have e0 := s4 _ _ (s3 _ _ g2)
    have e1 := s4 _ _ g3
    refine q d _ ((o1.trans ((Same.off s14).trans off_upd)).same nd) nd ⟨q0, q1, q2, upd_same, ?_, ?_, ?_⟩
    · rw [upd_ne (nd0 e0)]; exact e0
    · rw [upd_ne (nd0 e1)]; exact e1
    · rw [upd_ne (nd0 g4)]; exact g4
theorem turn_at {i j : Nat} (hi : i < 3) (hj : j < 3) (n : i ≠ j) : ∃ c1 c2 c3 c4 : Nat, (wd [i, j], [(c1 : Int), c2, c3, c4, i, j, ((3 - i - j : Nat) : Int)]) ∈ turnsT ∧
    (∀ f : Nat → Nat → Int, (six f)[c1]? = some (f i j) ∧ (six f)[c2]? = some (f i (3 - i - j)) ∧ (six f)[c3]? = some (f (3 - i - j) j) ∧ (six f)[c4]? = some (f j i)) := by
  rcases (show i = 0 ∧ j = 1 ∨ i = 0 ∧ j = 2 ∨ i = 1 ∧ j = 0 ∨ i = 1 ∧ j = 2 ∨ i = 2 ∧ j = 0 ∨ i = 2 ∧ j = 1 by omega) with ⟨rfl, rfl⟩ | ⟨rfl, rfl⟩ | ⟨rfl, rfl⟩ | ⟨rfl, rfl⟩ | ⟨rfl, rfl⟩ | ⟨rfl, rfl⟩
  · exact ⟨0, 1, 5, 2, by decide +kernel, fun f => ⟨rfl, rfl, rfl, rfl⟩⟩
  · exact ⟨1, 0, 3, 4, by decide +kernel, fun f => ⟨rfl, rfl, rfl, rfl⟩⟩
  · exact ⟨2, 3, 4, 0, by decide +kernel, fun f => ⟨rfl, rfl, rfl, rfl⟩⟩
  · exact ⟨3, 2, 1, 5, by decide +kernel, fun f => ⟨rfl, rfl, rfl, rfl⟩⟩
  · exact ⟨4, 5, 2, 1, by decide +kernel, fun f => ⟨rfl, rfl, rfl, rfl⟩⟩
  · exact ⟨5, 4, 0, 3, by decide +kernel, fun f => ⟨rfl, rfl, rfl, rfl⟩⟩
theorem ix_six {p c : Addr} {x : Int} {k : Nat} {ns : List Int} (h : SqT K H p (iV ns)) (e : ns[k]? = some x) (q : Q (.int x) H) : uIx K (.ref p) (.int (k : Nat)) H Q :=
  ⟨_, .int x, .inr h, at_nat (by unfold iV; rw [List.getElem?_map, e]; rfl), q⟩
theorem three_at (u : Nat → Int) {k : Nat} (hk : k < 3) : (three u)[k]? = some (u k) := by
  match k, hk with
  | 0, _ => rfl
  | 1, _ => rfl
  | 2, _ => rfl
include F in
theorem read_both_lines (h : sp_both_lines K vs H Q E) : t_both_lines K E { nx := fun _ H' => Q .non H', rt := Q } (start ["way", "prices", "towers", "to_towers", "from_towers", "straight", "first", "second", "back", "here", "there", "over"] vs) H := by
  match vs, h with
  | [_, _, _, _, _], ⟨i, j, px, py, pz, pt, f, D, u, v, rfl, hi, hj, n, rfl, rfl, rfl, rfl, h1, h2, h3, h4, q⟩ =>
    unfold t_both_lines
    obtain ⟨c1, c2, c3, c4, mem, at_⟩ := turn_at hi hj n
    obtain ⟨f1, f2, f3, f4⟩ := at_ f
    obtain ⟨_, _, _, d4⟩ := at_ D
    have ht : 3 - i - j < 3 := by omega
    walk_at "s"
    walk_at "1"
    refine ⟨_, _, rfl, rfl, mem, fun p hp => ?_⟩
    refine ⟨p, _, rfl, hp, rfl, un1 (un1 (un1 (un1 (un1 (un1 (un1 (un0 ?_)))))))⟩
    walk_at "1"
    refine ix_six (c := p) h3 (three_at u ht) (ix_six (c := p) h1 f1 ?_)
    walk_at "1"
    refine ix_six (c := p) h4 (three_at v ht) ?_
    walk_at "1"
    refine ix_six (c := p) h3 (three_at u hj) (ix_six (c := p) h1 f2 ?_)
    walk_at "1"
    refine ix_six (c := p) h2 d4 ?_
    walk_at "1"
    refine ix_six (c := p) h1 f3 ?_
    walk_at "1"
    refine ix_six (c := p) h4 (three_at v hi) ?_
    walk_at "1"
    exact ⟨by decide, fun r hr => q r _ (same_new hr) hr upd_same⟩
end
end U
namespace U
open PySem PySem.Spec PyProof.Rows L2

/-! ### a dict comprehension over pairs -/
/-- the turns of such a comprehension, D its dict -/
def DcB (J : It) (g : TG) (tt : TT) (tk tv : TE) (vs : List Nat) (σ : L2.St) (H1 : Hp) (D : Addr) (Qd : Hp → Prop) : Prop :=
  ∃ W : Nat → Nat → Hp → Prop, (∃ m, W 0 m (upd H1 D (.dK []))) ∧ ∀ i m H, W i m H → (J.stop i H ∧ Qd H) ∨ (J.go i H ∧ ∃ Nx : Hp → Prop, (∀ H', Nx H' → ∃ m', m' < m ∧ W (i + 1) m' H') ∧ ∀ x H', J.yld i H x H' → g x (wipe σ vs) H' fun ρ H2 => wipe ρ vs = wipe σ vs ∧ tt ρ H2 fun b H3 =>
        if b = true then tk ρ H3 fun u H4 => tv ρ H4 fun z H5 => ∃ kvs k, u = kV k ∧ H5 D = some (.dK kvs) ∧ kvs.length < sizeLine ∧ Nx (upd H5 D (.dK (putK kvs k z))) else Nx H3)
theorem pair_in {K : PySem.W.Frag} {T : Addr} {x y : V} {i j : Nat} {σ : L2.St} {H : Hp} {Q : L2.St → Hp → Prop} (h : H T = some (.tup [x, y])) (q : Q ((σ.set i (some x)).set j (some y)) H) : gTup K 2 (gCons (gName i) (gCons (gName j) gNil)) (.ref T) σ H Q :=
  ⟨T, _, rfl, .inl (.inl h), rfl, x, _, rfl, y, _, rfl, rfl, q⟩
/-! ### what the head tells of the class Reckoning -/
structure KR (K : PySem.W.Frag) : Prop where
  cl : Cls K (He.ga K "Reckoning")
  bound : NoAttr K (He.ga K "Reckoning") "bound"
  prices : NoAttr K (He.ga K "Reckoning") "prices"
  towers : NoAttr K (He.ga K "Reckoning") "towers"
  back : NoAttr K (He.ga K "Reckoning") "_backwards"
  ne : He.ga K "Yard" ≠ He.ga K "Reckoning"
/-- the fields of a reckoning -/
def rkF (B : Int) (lp lt : V) (bk : V) : List (Str × V) := [("bound", .int B), ("prices", lp), ("towers", lt), ("_backwards", bk)]
def RkAt (K : PySem.W.Frag) (H : Hp) (a : Addr) (B : Int) (lp lt : V) : Prop := ∃ dx bk, H a = some (.ins (He.ga K "Reckoning") dx (rkF B lp lt bk))
def toldV (B n : Int) : Option Int := if n < B then some n else none
def sp_Reckoning_init (K : PySem.W.Frag) : Sp := sp4 fun s b p t H Q _ => ∃ a dx B, s = .ref a ∧ b = .int B ∧ H a = some (.ins (He.ga K "Reckoning") dx []) ∧ ∀ H', Off a H H' → H' a = some (.ins (He.ga K "Reckoning") dx (rkF B p t .non)) → Q .non H'
def sp_Reckoning_told (K : PySem.W.Frag) : Sp := sp2 fun s x H Q _ => ∃ a B lp lt n, s = .ref a ∧ RkAt K H a B lp lt ∧ x = .int n ∧ Q (pV (toldV B n)) H
def t_Reckoning_init (K : PySem.W.Frag) (E : XK) : TS := (tSeq (sFld K (tVar 0) (tVar 1) "bound") (tSeq (sFld K (tVar 0) (tVar 2) "prices") (tSeq (sFld K (tVar 0) (tVar 3) "towers") (sFld K (tVar 0) (tC .non) "_backwards"))))
def t_Reckoning_told (K : PySem.W.Frag) (E : XK) : TS := (tRet (tIf (tTest (tOp uLt (tVar 1) (tFld K (tVar 0) "bound"))) (tVar 1) (tC .non)))
section
variable {K : PySem.W.Frag} (F : KF K) (R : KR K) {vs : List V} {H : Hp} {Q : VK} {E : XK}
local macro_rules | `(tactic| walk_at "w") => `(tactic| try simp only [turnE, lcT, Snoc, tRet, tRetN, tAndV, tOrV, tNotV, tCB, tCons, tVar, tNil, tC, tOp, tSeq, tAsg, gName, gSub, tIfS, tDrop, tFn, tTup, tLst, tNext, tB, tTest, tNot, tAnd, tOr, tIf, tChain, tUn, rU, tFld, tPart, tNoPart, L2.tSl, tBM, tPar, tPar3, tTruth, tDNewK,
  L2.start, List.map_cons, List.map_nil, List.length_cons, List.length_nil, List.replicate_succ, List.replicate_zero, List.append_nil, List.nil_append, List.cons_append, List.singleton_append, Nat.sub_self, Nat.zero_add, Nat.reduceAdd, Nat.reduceSub,
  List.getElem?_cons_zero, List.getElem?_cons_succ, List.set_cons_zero, List.set_cons_succ, Option.some.injEq, exists_eq_left, exists_eq_left', V.int.injEq, V.bl.injEq, V.str.injEq, V.ref.injEq,
  uAdd_int, uAdd_str, uSub_int, uMul_int, uMul_str, uDiv_int, uMod_int, uPow_int, uLt_int, uLe_int, uGt_int, uGe_int, uIs_non, uNis_non, uIs_bl, uNis_bl, sp1, sp2, sp3, sp4, uEq_int, uEq_str, uNe_int, uNe_str, uSl_str, uLen_str, decide_eq_true_eq])
local macro_rules | `(tactic| walk_at "1") => `(tactic| try simp only [turnE, lcT, Snoc, tRet, tRetN, tAndV, tOrV, tNotV, tCB, tCons, tVar, tNil, tC, tOp, tAsg, gName, gSub, tIfS, tDrop, tFn, tTup, tLst, tNext, tB, tTest, tNot, tAnd, tOr, tIf, tChain, tUn, rU, tFld, tPart, tNoPart, L2.tSl, tBM, tPar, tPar3, tTruth, tDNewK,
  L2.start, List.map_cons, List.map_nil, List.length_cons, List.length_nil, List.replicate_succ, List.replicate_zero, List.append_nil, List.nil_append, List.cons_append, List.singleton_append, Nat.sub_self, Nat.zero_add, Nat.reduceAdd, Nat.reduceSub,
  List.getElem?_cons_zero, List.getElem?_cons_succ, List.set_cons_zero, List.set_cons_succ, Option.some.injEq, exists_eq_left, exists_eq_left', V.int.injEq, V.bl.injEq, V.str.injEq, V.ref.injEq,
  uAdd_int, uAdd_str, uSub_int, uMul_int, uMul_str, uDiv_int, uMod_int, uPow_int, uLt_int, uLe_int, uGt_int, uGe_int, uIs_non, uNis_non, uIs_bl, uNis_bl, sp1, sp2, sp3, sp4, uEq_int, uEq_str, uNe_int, uNe_str, uSl_str, uLen_str, decide_eq_true_eq])
local macro_rules | `(tactic| walk_at "s") => `(tactic| ((try dsimp only [turnE]); with_reducible refine seq_ ?_))

include F R in
theorem read_Reckoning_init (h : sp_Reckoning_init K vs H Q E) : t_Reckoning_init K E { nx := fun _ H' => Q .non H', rt := Q } (start ["self", "bound", "prices", "towers"] vs) H := by
  match vs, h with
  | [_, _, p, t], ⟨a, dx, B, rfl, rfl, ha, q⟩ =>
    unfold t_Reckoning_init
    simp only [tSeq, sFld]
    walk_at "1"
    refine ⟨a, _, dx, _, rfl, ha, R.cl, R.bound, by decide, ?_⟩
    have e1 : putF "bound" (.int B) [] = ([("bound", .int B)] : List (Str × V)) := rfl
    have e2 : putF "prices" p ([("bound", .int B)] : List (Str × V)) = ([("bound", .int B), ("prices", p)] : List (Str × V)) := rfl
    have e3 : putF "towers" t ([("bound", .int B), ("prices", p)] : List (Str × V)) = ([("bound", .int B), ("prices", p), ("towers", t)] : List (Str × V)) := rfl
    have e4 : putF "_backwards" .non ([("bound", .int B), ("prices", p), ("towers", t)] : List (Str × V)) = rkF B p t .non := rfl
    refine ⟨a, _, dx, _, rfl, upd_same, R.cl, R.prices, by rw [e1]; show (1 : Nat) < 1000; decide, ?_⟩
    rw [e1, e2]
    refine ⟨a, _, dx, _, rfl, upd_same, R.cl, R.towers, by show (2 : Nat) < 1000; decide, ?_⟩
    rw [e3]
    refine ⟨a, _, dx, _, rfl, upd_same, R.cl, R.back, by show (3 : Nat) < 1000; decide, ?_⟩
    rw [e4]
    exact q _ (Off.trans (Off.trans (Off.trans off_upd off_upd) off_upd) off_upd) upd_same
include F R in
theorem read_Reckoning_told (h : sp_Reckoning_told K vs H Q E) : t_Reckoning_told K E { nx := fun _ H' => Q .non H', rt := Q } (start ["self", "number"] vs) H := by
  match vs, h with
  | [_, _], ⟨a, B, lp, lt, n, rfl, ⟨dx, bk, ha⟩, rfl, q⟩ =>
    unfold t_Reckoning_told
    walk_at "1"
    refine ⟨a, _, dx, _, .int B, rfl, ha, R.cl, R.bound, rfl, ?_⟩
    walk_at "1"
    by_cases l : n < B
    · rw [toldV, if_pos l] at q
      rw [if_pos l]
      exact q
    · rw [toldV, if_neg l] at q
      rw [if_neg l]
      exact q
end
end U
namespace U
open PySem PySem.Spec PyProof.Rows L2

/-! ### comprehensions of two clauses -/
def lc3T (g : TG) (tt : TT) (te : TE) (vs : List Nat) (σ : L2.St) (D : Addr) (N : Hp → Prop) (x : V) (H : Hp) : Prop :=
  g x (wipe σ vs) H fun τ H2 => wipe τ vs = wipe σ vs ∧ tt τ H2 fun b H3 => if b = true then te τ H3 (fun y H4 => ∃ acc, H4 D = some (.lst acc) ∧ acc.length < sizeLine ∧ N (upd H4 D (.lst (acc ++ [y])))) else N H3
def lc2T (g : TG) (tt : TT) (wi1 : TI) (g1 : TG) (tt1 : TT) (te : TE) (vs vs1 : List Nat) (σ : L2.St) (D : Addr) (N : Hp → Prop) (x : V) (H : Hp) : Prop :=
  g x (wipe σ vs) H fun τ H2 => wipe τ vs = wipe σ vs ∧ tt τ H2 fun b H3 => if b = true then wi1 τ H3 fun J1 H4 => Laps J1 H4 N fun y H5 N1 => lc3T g1 tt1 te vs1 τ D N1 y H5 else N H3
theorem tLc2_of {wi : TI} {g : TG} {tt : TT} {wi1 : TI} {g1 : TG} {tt1 : TT} {te : TE} {vs vs1 : List Nat} {σ : L2.St} {H : Hp} {Q : VK} (h : wi σ H fun J H1 => ∀ D, H1 D = none → Laps J (upd H1 D (.lst [])) (Q (.ref D)) fun x H' N => lc2T g tt wi1 g1 tt1 te vs vs1 σ D N x H') :
    tLc2 wi g tt wi1 g1 tt1 te vs vs1 σ H Q := h
/-! ### the prices of a reckoning -/
def PrB (K : PySem.W.Frag) (H : Hp) (l : Addr) (qs : List (List Int)) : Prop := ∃ bs : List Addr, H l = some (.lst (bs.map V.ref)) ∧ bs.length = qs.length ∧ ∀ (i : Nat) (b : Addr) (q : List Int), bs[i]? = some b → qs[i]? = some q → SqT K H b (iV q)
theorem PrB.same {K : PySem.W.Frag} {H H' : Hp} {l : Addr} {qs : List (List Int)} (e : Same H H') (h : PrB K H l qs) : PrB K H' l qs := by
  obtain ⟨bs, h1, h2, h3⟩ := h
  exact ⟨bs, e _ _ h1, h2, fun i b q z1 z2 => Same.sqT e (h3 i b q z1 z2)⟩
def rowI (B : Int) (r : List (Option Int)) : List Int := r.map fun o => o.getD B
def RowsT (K : PySem.W.Frag) (H : Hp) (t : Addr) (rows : List (List (Option Int))) : Prop := ∃ as : List Addr, SqT K H t (as.map V.ref) ∧ as.length = rows.length ∧ rows.length ≤ 60 ∧ (∀ (i : Nat) (a : Addr) (r : List (Option Int)), as[i]? = some a → rows[i]? = some r → SqT K H a (r.map pV)) ∧ ∀ r ∈ rows, r.length = 6
theorem RowsT.same {K : PySem.W.Frag} {H H' : Hp} {t : Addr} {rows : List (List (Option Int))} (e : Same H H') (h : RowsT K H t rows) : RowsT K H' t rows := by
  obtain ⟨as, h1, h2, h3, h4, h5⟩ := h
  exact ⟨as, Same.sqT e h1, h2, h3, fun i a r z1 z2 => Same.sqT e (h4 i a r z1 z2), h5⟩
def sp_without_bars (K : PySem.W.Frag) : Sp := sp2 fun x y H Q _ => ∃ t rows B, x = .ref t ∧ y = .int B ∧ RowsT K H t rows ∧ ∀ l H', Same H H' → H l = none → PrB K H' l (rows.reverse.map (rowI B)) → Q (.ref l) H'
def t_without_bars (K : PySem.W.Frag) (E : XK) : TS := (tRet (tLc (iSeq K (tRevU K (tVar 0))) (gName 2) tYes (tIf (tTest (tOp (uIn K false) (tC .non) (tVar 2))) (tCB (uTup K) (tCons (tLc (iSeq K (tVar 2)) (gName 3) tYes (tIf (tTest (tOp uIs (tVar 3) (tC .non))) (tVar 1) (tVar 3)) [3]) tNil)) (tVar 2)) [2]))
section
variable {K : PySem.W.Frag} (F : KF K) (R : KR K) {vs : List V} {H : Hp} {Q : VK} {E : XK}
local macro_rules | `(tactic| walk_at "w") => `(tactic| try simp only [turnE, lcT, Snoc, tRet, tRetN, tAndV, tOrV, tNotV, tCB, tCons, tVar, tNil, tC, tOp, tSeq, tAsg, gName, gSub, tIfS, tDrop, tFn, tTup, tLst, tNext, tB, tTest, tNot, tAnd, tOr, tIf, tChain, tUn, rU, tFld, tPart, tNoPart, L2.tSl, tBM, tPar, tPar3, tTruth, tDNewK,
  L2.start, List.map_cons, List.map_nil, List.length_cons, List.length_nil, List.replicate_succ, List.replicate_zero, List.append_nil, List.nil_append, List.cons_append, List.singleton_append, Nat.sub_self, Nat.zero_add, Nat.reduceAdd, Nat.reduceSub,
  List.getElem?_cons_zero, List.getElem?_cons_succ, List.set_cons_zero, List.set_cons_succ, Option.some.injEq, exists_eq_left, exists_eq_left', V.int.injEq, V.bl.injEq, V.str.injEq, V.ref.injEq,
  uAdd_int, uAdd_str, uSub_int, uMul_int, uMul_str, uDiv_int, uMod_int, uPow_int, uLt_int, uLe_int, uGt_int, uGe_int, uIs_non, uNis_non, uIs_bl, uNis_bl, sp1, sp2, sp3, sp4, uEq_int, uEq_str, uNe_int, uNe_str, uSl_str, uLen_str, decide_eq_true_eq])
local macro_rules | `(tactic| walk_at "1") => `(tactic| try simp only [turnE, lcT, Snoc, tRet, tRetN, tAndV, tOrV, tNotV, tCB, tCons, tVar, tNil, tC, tOp, tAsg, gName, gSub, tIfS, tDrop, tFn, tTup, tLst, tNext, tB, tTest, tNot, tAnd, tOr, tIf, tChain, tUn, rU, tFld, tPart, tNoPart, L2.tSl, tBM, tPar, tPar3, tTruth, tDNewK,
  L2.start, List.map_cons, List.map_nil, List.length_cons, List.length_nil, List.replicate_succ, List.replicate_zero, List.append_nil, List.nil_append, List.cons_append, List.singleton_append, Nat.sub_self, Nat.zero_add, Nat.reduceAdd, Nat.reduceSub,
  List.getElem?_cons_zero, List.getElem?_cons_succ, List.set_cons_zero, List.set_cons_succ, Option.some.injEq, exists_eq_left, exists_eq_left', V.int.injEq, V.bl.injEq, V.str.injEq, V.ref.injEq,
  uAdd_int, uAdd_str, uSub_int, uMul_int, uMul_str, uDiv_int, uMod_int, uPow_int, uLt_int, uLe_int, uGt_int, uGe_int, uIs_non, uNis_non, uIs_bl, uNis_bl, sp1, sp2, sp3, sp4, uEq_int, uEq_str, uNe_int, uNe_str, uSl_str, uLen_str, decide_eq_true_eq])
local macro_rules | `(tactic| walk_at "s") => `(tactic| ((try dsimp only [turnE]); with_reducible refine seq_ ?_))

theorem in_nons (r : List (Option Int)) : inV .non (r.map pV) = r.contains none := by
  unfold inV
  induction r with
  | nil => rfl
  | cons o t ih =>
    rw [List.map_cons, List.any_cons, ih, List.contains_cons]
    cases o <;> rfl
theorem flat_pvs (r : List (Option Int)) : (r.map pV).all flatV = true := by
  rw [List.all_map]
  refine List.all_eq_true.mpr fun o _ => ?_
  cases o <;> rfl
theorem rowI_full {B : Int} {r : List (Option Int)} (h : r.contains none = false) : (rowI B r).map V.int = r.map pV := by
  unfold rowI
  rw [List.map_map]
  refine List.map_congr_left fun o m => ?_
  cases o with
  | none => rw [List.contains_iff_mem.mpr m] at h; cases h
  | some i => rfl
include F in
theorem read_without_bars (h : sp_without_bars K vs H Q E) : t_without_bars K E { nx := fun _ H' => Q .non H', rt := Q } (start ["rows", "bound", "row", "price"] vs) H := by
  match vs, h with
  | [_, _], ⟨t, rows, B, rfl, rfl, ⟨as, h1, h2, h3, h4, h5⟩, q⟩ =>
    unfold t_without_bars
    simp only [tRet]
    refine tLc_inT ?_
    refine .inr ⟨.ref t, rfl, t, _, rfl, h1, fun p hp => ⟨p, rfl, ⟨_, .inl (.inl upd_same)⟩, fun D hD => ?_⟩⟩
    have s1 : Same H (upd H p (.tup (as.map V.ref).reverse)) := same_new hp
    have g1 : upd H p (.tup (as.map V.ref).reverse) p = some (.tup (as.reverse.map V.ref)) := by rw [upd_same, List.map_reverse]
    generalize upd H p (.tup (as.map V.ref).reverse) = H1 at *
    refine lc_grow (plain_T (K := K) (a := p) (xs := as.reverse.map V.ref)) (fun acc H' => ∃ bs : List Addr, acc = bs.map V.ref ∧ bs.length ≤ rows.length ∧ ∀ (i : Nat) (b : Addr) (z : List Int), bs[i]? = some b → (rows.reverse.map (rowI B))[i]? = some z → SqT K H' b (iV z)) hD
      (by rw [List.length_map, List.length_reverse, h2]; exact Nat.le_trans h3 (by decide)) (fun H' s => Same.sqT s (.inl (.inl g1))) (fun _ _ => ⟨[], rfl, Nat.zero_le _, fun i b z e => nomatch e⟩) ?_ ?_ ?_
    · rintro acc l H2 H3 hl o ⟨bs, e1, e2, e3⟩
      exact ⟨bs, e1, e2, fun i b z z1 z2 => o.sqT hl (e3 i b z z1 z2)⟩
    · rintro i y acc H2 Q' hy s hl ⟨bs, e1, e2, e3⟩ k
      rw [List.getElem?_map] at hy
      obtain ⟨c, hc, rfl⟩ := Option.map_eq_some_iff.mp hy
      have lt : i < rows.length := by
        have := (List.getElem?_eq_some_iff.mp hc).1
        rw [List.length_reverse, h2] at this
        exact this
      have hl2 : bs.length = i := by rw [e1, List.length_map] at hl; exact hl
      have er : rows.reverse[i]? = some rows[rows.length - 1 - i] := by
        rw [List.getElem?_reverse lt]
        exact List.getElem?_eq_getElem _
      have ec : as[rows.length - 1 - i]? = some c := by
        rw [List.getElem?_reverse (by rw [h2]; exact lt), h2] at hc
        exact hc
      have hq := h4 _ c _ ec (List.getElem?_eq_getElem (show rows.length - 1 - i < rows.length by omega))
      have l6 : (rows[rows.length - 1 - i]).length = 6 := h5 _ (List.getElem_mem _)
      generalize rows[rows.length - 1 - i] = r at *
      have hq2 := Same.sqT (s1.trans s) hq
      have step : ∀ (b : Addr) (H3 : Hp), Same H2 H3 → SqT K H3 b (iV (rowI B r)) → Q' (.ref b) H3 := fun b H3 s3 hb => by
        refine k _ _ s3 ⟨bs ++ [b], by simp [e1], by simp; omega, fun j d z z1 z2 => ?_⟩
        by_cases e : j = i
        · subst e
          rw [List.getElem?_append_right (by omega), hl2] at z1
          simp at z1
          subst z1
          rw [List.getElem?_map, er] at z2
          cases z2
          exact hb
        · have : j < bs.length := by
            have := (List.getElem?_eq_some_iff.mp z1).1
            simp at this
            omega
          rw [List.getElem?_append_left this] at z1
          exact Same.sqT s3 (e3 j d z z1 z2)
      walk_at "1"
      refine ⟨c, _, rfl, .inr hq2, rfl, flat_pvs r, _, rfl, ?_⟩
      rw [if_neg (show ¬ false = true by decide), in_nons]
      by_cases nb : r.contains none = true
      · rw [if_pos nb]
        refine tLc_inT ⟨.ref c, rfl, c, rfl, ⟨_, hq2⟩, fun D2 hD2 => ?_⟩
        refine lc_grow (plain_T (K := K) (a := c) (xs := r.map pV)) (fun acc _ => acc = ((rowI B r).take acc.length).map V.int) hD2 (by
            rw [List.length_map, l6]; decide) (fun H' s => Same.sqT s hq2) (fun _ _ => rfl) (fun _ _ _ _ _ _ z => z) ?_ ?_
        · rintro j z acc H3 Q3 hz s3 hl3 e3' k3
          rw [List.getElem?_map] at hz
          obtain ⟨o, ho, rfl⟩ := Option.map_eq_some_iff.mp hz
          have fin : ∀ v, v = V.int (o.getD B) → Q3 v H3 := fun v ev => by
            subst ev
            refine k3 _ H3 (Same.refl _) ?_
            have lo := (List.getElem?_eq_some_iff.mp ho).1
            have lr : j < (rowI B r).length := by unfold rowI; rw [List.length_map]; exact lo
            have e4 : acc = ((rowI B r).take j).map V.int := by rw [hl3] at e3'; exact e3'
            have : (rowI B r)[j] = o.getD B := by
              have e5 : (rowI B r)[j]? = some (o.getD B) := by
                unfold rowI
                rw [List.getElem?_map, ho]
                rfl
              exact (List.getElem?_eq_some_iff.mp e5).2
            rw [List.length_append, List.length_singleton, hl3, List.take_succ_eq_append_getElem lr, List.map_append, this, ← e4]
            rfl
          walk_at "1"
          cases o with
          | none => exact fin _ rfl
          | some i => exact fin _ rfl
        · rintro acc H3 hl3 s3 gD2 e3'
          rw [List.length_map, l6] at hl3
          rw [hl3, List.take_of_length_le (by unfold rowI; rw [List.length_map, l6]; exact Nat.le_refl _)] at e3'
          subst e3'
          exact ⟨_, .inl ⟨.inl (.inl gD2), fun l hl => step l _ (s3.trans (same_new hl)) (.inl (.inl upd_same))⟩⟩
      · rw [if_neg nb]
        refine step c H2 (Same.refl _) ?_
        rw [show iV (rowI B r) = r.map pV from rowI_full (by simpa using nb)]
        exact hq2
    · rintro acc H2 hl s gD ⟨bs, e1, e2, e3⟩
      subst e1
      rw [List.length_map, List.length_map, List.length_reverse, h2] at hl
      refine q D H2 (s1.trans s) ?_ ⟨bs, gD, by rw [List.length_map, List.length_reverse, hl], e3⟩
      exact s1.free hD
end
end U
namespace U
open PySem PySem.Spec PyProof.Rows L2

/-! ### the reckoning of some rows -/
def colN : Nat → Nat → Nat
  | 0, 1 => 0
  | 0, 2 => 1
  | 1, 0 => 2
  | 1, 2 => 3
  | 2, 0 => 4
  | _, _ => 5
def fnOf (q : List Int) (i j : Nat) : Int := (q[colN i j]?).getD 0
theorem six_fn {q : List Int} (h : q.length = 6) : six (fnOf q) = q := by
  match q, h with
  | [a, b, c, d, e, f], _ => rfl
/-- the levels of the costs from tower to tower, for no crates and so on -/
def levelQ (qs : List (List Int)) (k : Nat) : Nat → Nat → Int := levelN (((qs.take k).map fnOf).reverse)
def towersL (qs : List (List Int)) : List (List Int) := (List.range (qs.length + 1)).map fun k => six (levelQ qs k)
theorem levelQ_succ {qs : List (List Int)} {k : Nat} {q : List Int} (h : qs[k]? = some q) : levelQ qs (k + 1) = stepN (fnOf q) (levelQ qs k) := by
  have lt := (List.getElem?_eq_some_iff.mp h).1
  unfold levelQ
  rw [List.take_succ_eq_append_getElem lt, List.map_append, List.reverse_append, (List.getElem?_eq_some_iff.mp h).2]
  rfl
def priced (rows : List (List (Option Int))) : List Int := rows.flatMap fun r => r.filterMap id
/-- a bound of all prices -/
def Great (rows : List (List (Option Int))) (g : Int) : Prop := 0 < g ∧ g < 10 ^ 33 ∧ ∀ p ∈ priced rows, 0 < p ∧ p ≤ g
/-- the six numbers of the ways back -/
def turnQ (q : List Int) : List Int := six fun i j => fnOf q j i
/-- the numbers of a reckoning -/
def RkN0 (K : PySem.W.Frag) (H : Hp) (a : Addr) (B : Int) (qs : List (List Int)) : Prop := ∃ lp lt : Addr, RkAt K H a B (.ref lp) (.ref lt) ∧ PrB K H lp qs ∧ PrB K H lt (towersL qs)
/-- what a reckoning keeps: nothing yet, or that of the ways back -/
def Bk (K : PySem.W.Frag) (H : Hp) (bk : V) (B : Int) (qs : List (List Int)) : Prop := bk = .non ∨ ∃ b, bk = .ref b ∧ RkN0 K H b B (qs.map turnQ)
def RkO (K : PySem.W.Frag) (H : Hp) (a : Addr) (rows : List (List (Option Int))) : Prop := ∃ (g : Int) (lp lt : Addr), Great rows g ∧ (∃ dx bk, H a = some (.ins (He.ga K "Reckoning") dx (rkF (g * 4 ^ rows.length) (.ref lp) (.ref lt) bk)) ∧ Bk K H bk (g * 4 ^ rows.length) (rows.reverse.map (rowI (g * 4 ^ rows.length)))) ∧ PrB K H lp (rows.reverse.map (rowI (g * 4 ^ rows.length))) ∧ PrB K H lt (towersL (rows.reverse.map (rowI (g * 4 ^ rows.length))))
def PricesOk (rows : List (List (Option Int))) : Prop := ∀ p ∈ priced rows, 0 < p ∧ p < 10 ^ 33
def sp_reckoning_of (K : PySem.W.Frag) : Sp := sp1 fun x H Q _ => ∃ t rows, x = .ref t ∧ RowsT K H t rows ∧ PricesOk rows ∧ ∀ a H', Same H H' → H a = none → RkO K H' a rows → Q (.ref a) H'
def t_reckoning_of (K : PySem.W.Frag) (E : XK) : TS := (tSeq (tAsg (tCKw (rMaxDf K) (tCons (tLc2 (iSeq K (tVar 0)) (gName 6) tYes (iSeq K (tVar 6)) (gName 7) (tTest (tOp uNis (tVar 7) (tC .non))) (tVar 7) [6, 7] [7]) tNil) (tCons (tC (.int 1)) tNil)) (gName 1)) (tSeq (tAsg (tOp uShl (tVar 1) (tOp uMul (tC (.int 2)) (tCB (uLen K) (tCons (tVar 0) tNil)))) (gName 2)) (tSeq (tAsg (tFn (sp_without_bars K) E (tCons (tVar 0) (tCons (tVar 2) tNil))) (gName 3)) (tSeq (tAsg (tLst (tCons (tTup (tCons (tC (.int 0)) (tCons (tC (.int 0)) (tCons (tC (.int 0)) (tCons (tC (.int 0)) (tCons (tC (.int 0)) (tCons (tC (.int 0)) tNil))))))) tNil)) (gName 4)) (tSeq (tFor (iSeq K (tVar 3)) (gName 5) (tDrop (tBM K "list" rAppend (tVar 4) (tCons (tFn (sp_towers_above K) E (tCons (tVar 5) (tCons (tOp (uIx K) (tVar 4) (tUn (rU fun i => .int (-i)) (tC (.int 1)))) tNil))) tNil)))) (tRet (tMake (He.ga K "Reckoning") (sp_Reckoning_init K) [] E (tCons (tVar 2) (tCons (tVar 3) (tCons (tVar 4) tNil))))))))))
section
variable {K : PySem.W.Frag} (F : KF K) (R : KR K) {vs : List V} {H : Hp} {Q : VK} {E : XK}
local macro_rules | `(tactic| walk_at "w") => `(tactic| try simp only [turnE, lcT, Snoc, tRet, tRetN, tAndV, tOrV, tNotV, tCB, tCons, tVar, tNil, tC, tOp, tSeq, tAsg, gName, gSub, tIfS, tDrop, tFn, tTup, tLst, tNext, tB, tTest, tNot, tAnd, tOr, tIf, tChain, tUn, rU, tFld, tPart, tNoPart, L2.tSl, tBM, tPar, tPar3, tTruth, tDNewK,
  L2.start, List.map_cons, List.map_nil, List.length_cons, List.length_nil, List.replicate_succ, List.replicate_zero, List.append_nil, List.nil_append, List.cons_append, List.singleton_append, Nat.sub_self, Nat.zero_add, Nat.reduceAdd, Nat.reduceSub,
  List.getElem?_cons_zero, List.getElem?_cons_succ, List.set_cons_zero, List.set_cons_succ, Option.some.injEq, exists_eq_left, exists_eq_left', V.int.injEq, V.bl.injEq, V.str.injEq, V.ref.injEq,
  uAdd_int, uAdd_str, uSub_int, uMul_int, uMul_str, uDiv_int, uMod_int, uPow_int, uLt_int, uLe_int, uGt_int, uGe_int, uIs_non, uNis_non, uIs_bl, uNis_bl, sp1, sp2, sp3, sp4, uEq_int, uEq_str, uNe_int, uNe_str, uSl_str, uLen_str, decide_eq_true_eq])
local macro_rules | `(tactic| walk_at "1") => `(tactic| try simp only [turnE, lcT, Snoc, tRet, tRetN, tAndV, tOrV, tNotV, tCB, tCons, tVar, tNil, tC, tOp, tAsg, gName, gSub, tIfS, tDrop, tFn, tTup, tLst, tNext, tB, tTest, tNot, tAnd, tOr, tIf, tChain, tUn, rU, tFld, tPart, tNoPart, L2.tSl, tBM, tPar, tPar3, tTruth, tDNewK,
  L2.start, List.map_cons, List.map_nil, List.length_cons, List.length_nil, List.replicate_succ, List.replicate_zero, List.append_nil, List.nil_append, List.cons_append, List.singleton_append, Nat.sub_self, Nat.zero_add, Nat.reduceAdd, Nat.reduceSub,
  List.getElem?_cons_zero, List.getElem?_cons_succ, List.set_cons_zero, List.set_cons_succ, Option.some.injEq, exists_eq_left, exists_eq_left', V.int.injEq, V.bl.injEq, V.str.injEq, V.ref.injEq,
  uAdd_int, uAdd_str, uSub_int, uMul_int, uMul_str, uDiv_int, uMod_int, uPow_int, uLt_int, uLe_int, uGt_int, uGe_int, uIs_non, uNis_non, uIs_bl, uNis_bl, sp1, sp2, sp3, sp4, uEq_int, uEq_str, uNe_int, uNe_str, uSl_str, uLen_str, decide_eq_true_eq])
local macro_rules | `(tactic| walk_at "s") => `(tactic| ((try dsimp only [turnE]); with_reducible refine seq_ ?_))

/-- the list of the prices that are no bars -/
theorem priced_of {t D : Addr} {rows : List (List (Option Int))} {x0 x1 x2 x3 x4 x5 : Option V} {Q : Hp → Prop} {as : List Addr} (h1 : SqT K H t (as.map V.ref)) (h2 : as.length = rows.length) (h3 : rows.length ≤ 60) (h4 : ∀ (i : Nat) (a : Addr) (r : List (Option Int)), as[i]? = some a → rows[i]? = some r → SqT K H a (r.map pV)) (h5 : ∀ r ∈ rows, r.length = 6) (hD : H D = none)
    (q : ∀ H', Same H H' → H' D = some (.lst ((priced rows).map V.int)) → Q H') :
    Laps (Itt K t) (upd H D (.lst [])) Q fun x H' N => lc2T (gName 6) tYes (iSeq K (tVar 6)) (gName 7) (tTest (tOp uNis (tVar 7) (tC .non))) (tVar 7) [6, 7] [7] [x0, x1, x2, x3, x4, x5, none, none] D N x H' := by
  have lenP : ∀ l : List (List (Option Int)), (∀ r ∈ l, r.length = 6) → (priced l).length ≤ 6 * l.length := by
    intro l
    induction l with
    | nil => intro _; exact Nat.le_refl _
    | cons r s ih =>
      intro h
      have := ih fun x m => h x (List.mem_cons_of_mem _ m)
      have h6 := h r List.mem_cons_self
      have := List.length_filterMap_le id r
      unfold priced at *
      rw [List.flatMap_cons, List.length_append, List.length_cons]
      omega
  refine it_plain (plain_T (K := K) (a := t) (xs := as.map V.ref)) (fun i H' => Same H H' ∧ H' D = some (.lst ((priced (rows.take i)).map V.int))) ⟨same_new hD, upd_same⟩ (fun i H' z => Same.sqT z.1 h1) ?_ ?_
  · rintro i x H2 hx ⟨s2, gD⟩
    rw [List.getElem?_map] at hx
    obtain ⟨a, ha, rfl⟩ := Option.map_eq_some_iff.mp hx
    have lt : i < rows.length := by rw [← h2]; exact (List.getElem?_eq_some_iff.mp ha).1
    have hr : rows[i]? = some rows[i] := List.getElem?_eq_getElem lt
    have ht := Same.sqT s2 (h4 i a _ ha hr)
    have l6 := h5 _ (List.getElem_mem lt)
    have few : (priced (rows.take i)).length ≤ 360 := by
      have := lenP (rows.take i) fun r m => h5 r (List.mem_of_mem_take m)
      rw [List.length_take] at this
      omega
    have grow : priced (rows.take (i + 1)) = priced (rows.take i) ++ (rows[i]).filterMap id := by
      unfold priced
      rw [List.take_succ_eq_append_getElem lt, List.flatMap_append, List.flatMap_cons, List.flatMap_nil, List.append_nil]
    generalize rows[i] = r at *
    generalize priced (rows.take i) = ps at *
    unfold lc2T
    refine ⟨rfl, ?_⟩
    unfold tYes
    dsimp only
    rw [if_pos rfl]
    refine .inr ⟨.ref a, rfl, a, rfl, ⟨_, ht⟩, ?_⟩
    refine it_plain (plain_T (K := K) (a := a) (xs := r.map pV)) (fun j H' => Same H H' ∧ H' D = some (.lst ((ps ++ (r.take j).filterMap id).map V.int)) ∧ SqT K H' a (r.map pV)) ⟨s2, by rw [List.take_zero]; simpa using gD, ht⟩ (fun j H' z => z.2.2) ?_ ?_
    · rintro j y H3 hy ⟨s3, gD3, ht3⟩
      rw [List.getElem?_map] at hy
      obtain ⟨o, ho, rfl⟩ := Option.map_eq_some_iff.mp hy
      have lo := (List.getElem?_eq_some_iff.mp ho).1
      have et : (r.take (j + 1)).filterMap id = (r.take j).filterMap id ++ [o].filterMap id := by
        rw [List.take_succ_eq_append_getElem lo, List.filterMap_append, (List.getElem?_eq_some_iff.mp ho).2]
      have fewJ : ((r.take j).filterMap id).length ≤ 6 := by
        have := List.length_filterMap_le id (r.take j)
        rw [List.length_take] at this
        omega
      rw [et]
      unfold lc3T
      refine ⟨rfl, ?_⟩
      cases o with
      | none =>
        refine ⟨_, rfl, ?_⟩
        simp only [tC, uNis, pV]
        refine ⟨_, rfl, ?_⟩
        rw [if_neg (by decide)]
        exact ⟨s3, by rw [show ([none] : List (Option Int)).filterMap id = [] from rfl, List.append_nil]; exact gD3, ht3⟩
      | some i =>
        refine ⟨_, rfl, ?_⟩
        simp only [tC, uNis, pV]
        refine ⟨_, rfl, ?_⟩
        rw [if_pos (by simp)]
        refine ⟨_, rfl, _, gD3, ?_, ?_⟩
        · rw [List.length_map, List.length_append, sizeLine_eq]
          omega
        · refine ⟨(Off.trans (Same.off s3) off_upd).same hD, ?_, ?_⟩
          · rw [upd_same, show ([some i] : List (Option Int)).filterMap id = [i] from rfl, ← List.append_assoc, List.map_append, List.map_append, List.map_append]
            rfl
          · exact Off.sqT off_upd gD3 ht3
    · rintro H3 ⟨s3, gD3, _⟩
      rw [List.length_map, l6, List.take_of_length_le (by rw [l6]; exact Nat.le_refl _)] at gD3
      exact ⟨s3, by rw [grow]; exact gD3⟩
  · rintro H2 ⟨s2, gD⟩
    rw [List.length_map, h2, List.take_length] at gD
    exact q H2 s2 gD
theorem max_great {D : Addr} {rows : List (List (Option Int))} (hD : H D = some (.lst ((priced rows).map V.int))) (ok : PricesOk rows) (q : ∀ g, Great rows g → Q (.int g) H) : rMaxDf K [.ref D] [.int 1] H Q :=
  ⟨D, priced rows, .int 1, rfl, rfl, .inl (.inl hD), fun e => q 1 ⟨by decide, by decide, fun p m => by rw [e] at m; cases m⟩, fun m hm hle => q m ⟨(ok m hm).1, (ok m hm).2, fun p mp => ⟨(ok p mp).1, hle p mp⟩⟩⟩
theorem tFor_seqL {t : TE} {g : TG} {tb : TS} {D : Ends} {σ : L2.St} (h : t σ H fun x H1 => ∃ a, x = .ref a ∧ (∃ xs, SqL K H1 a xs) ∧ tFor (fun _ H' R => R (Itl K a) H') g tb D σ H1) : tFor (iSeq K t) g tb D σ H := .inl h
theorem at_end {xs : List V} {v : V} {n : Nat} (h : xs.length = n + 1) (e : xs[n]? = some v) : atI xs (-1) = some v := by
  unfold atI ixN
  rw [h, if_neg (by decide), if_pos (by omega)]
  show xs[((n + 1 : Nat) + (-1) : Int).toNat]? = some v
  rw [show ((n + 1 : Nat) + (-1) : Int).toNat = n by omega]
  exact e
theorem pow_4 (n : Nat) : (2 : Int) ^ (2 * (n : Int)).toNat = 4 ^ n := by
  rw [show (2 * (n : Int)).toNat = 2 * n by omega, Int.pow_mul]
  rfl
include F R in
theorem read_reckoning_of (h : sp_reckoning_of K vs H Q E) : t_reckoning_of K E { nx := fun _ H' => Q .non H', rt := Q } (start ["rows", "greatest", "bound", "prices", "towers", "six", "row", "price"] vs) H := by
  match vs, h with
  | [_], ⟨t, rows, rfl, ⟨as, h1, h2, h3, h4, h5⟩, ok, q⟩ =>
    unfold t_reckoning_of
    walk_at "s"
    simp only [tCKw, tAsg]
    refine tLc2_of ?_
    refine .inr ⟨.ref t, rfl, t, rfl, ⟨_, h1⟩, fun D hD => ?_⟩
    refine priced_of h1 h2 h3 h4 h5 hD fun H1 s1 gD => ?_
    walk_at "1"
    refine max_great gD ok fun g hg => ?_
    have hn : (as.map V.ref).length = rows.length := by rw [List.length_map, h2]
    walk_at "s"
    walk_at "1"
    refine uLen_seq (.inr (Same.sqT s1 h1)) ?_
    walk_at "1"
    rw [hn]
    have gA : g.natAbs < 10 ^ 33 := by
      have := hg.1
      have := hg.2.1
      omega
    refine ⟨.inl (by decide), cshl_of (j := 2 * rows.length) gA (by omega), ?_⟩
    dsimp only
    rw [show ((2 * (rows.length : Int)).toNat) = (2 * (rows.length : Int)).toNat from rfl, pow_4]
    walk_at "s"
    walk_at "1"
    refine ⟨t, rows, _, rfl, rfl, ⟨as, Same.sqT s1 h1, h2, h3, fun i a r z1 z2 => Same.sqT s1 (h4 i a r z1 z2), h5⟩, fun lp H2 s2 np pr => ?_⟩
    walk_at "s"
    walk_at "1"
    refine ⟨by decide, fun z nz => ⟨by decide, fun lt nt => ?_⟩⟩
    have s3 : Same H2 (upd H2 z (.tup (iV [0, 0, 0, 0, 0, 0]))) := same_new nz
    have gz : upd H2 z (.tup (iV [0, 0, 0, 0, 0, 0])) z = some (.tup (iV [0, 0, 0, 0, 0, 0])) := upd_same
    change upd H2 z (.tup (iV [0, 0, 0, 0, 0, 0])) lt = none at nt
    show tSeq _ _ _ _ (upd (upd H2 z (.tup (iV [0, 0, 0, 0, 0, 0]))) lt (.lst [.ref z]))
    generalize upd H2 z (.tup (iV [0, 0, 0, 0, 0, 0])) = H3 at *
    have s4 : Same H3 (upd H3 lt (.lst [.ref z])) := same_new nt
    have gl : upd H3 lt (.lst [.ref z]) lt = some (.lst [.ref z]) := upd_same
    generalize upd H3 lt (.lst [.ref z]) = H4 at *
    generalize hB : g * 4 ^ rows.length = B at *
    generalize hqs : rows.reverse.map (rowI B) = qs at *
    have lq : qs.length = rows.length := by rw [← hqs, List.length_map, List.length_reverse]
    have l6 : ∀ q ∈ qs, q.length = 6 := fun x m => by
      rw [← hqs] at m
      obtain ⟨r, mr, rfl⟩ := List.mem_map.mp m
      unfold rowI
      rw [List.length_map]
      exact h5 r (List.mem_reverse.mp mr)
    have pr3 := pr.same s3
    obtain ⟨bs, p1, p2, p3⟩ := id pr3
    walk_at "s"
    refine tFor_seqL ?_
    refine ⟨.ref lp, rfl, lp, rfl, ⟨_, .inl (.inl (s4 _ _ p1))⟩, ?_⟩
    refine for_plain (plain_L (K := K) (a := lp) (xs := bs.map V.ref)) (fun R r => r)
      (fun i τ H' => (∃ o5, τ = [some (.ref t), some (.int g), some (.int B), some (.ref lp), some (.ref lt), o5, none, none]) ∧ Same H3 H' ∧ ∃ cs : List Addr, H' lt = some (.lst (cs.map V.ref)) ∧ cs.length = i + 1 ∧ ∀ (j : Nat) (c : Addr), cs[j]? = some c → SqT K H' c (iV (six (levelQ qs j))))
      ⟨⟨_, rfl⟩, s4, [z], gl, rfl, fun j c e => ?_⟩ (fun i τ H' z => .inl (.inl (z.2.1 _ _ p1))) ?_ ?_
    · match j, e with
      | 0, e =>
        cases e
        exact .inl (.inl (s4 _ _ gz))
    · rintro i x τ H5 hx ⟨⟨o5, rfl⟩, s5, cs, k1, k2, k3⟩
      rw [List.getElem?_map] at hx
      obtain ⟨c, hc, rfl⟩ := Option.map_eq_some_iff.mp hx
      have lt' : i < qs.length := by rw [← p2]; exact (List.getElem?_eq_some_iff.mp hc).1
      have hq : qs[i]? = some qs[i] := List.getElem?_eq_getElem lt'
      have tq := Same.sqT s5 (p3 i c _ hc hq)
      have m6 := l6 _ (List.getElem_mem lt')
      have next := levelQ_succ hq
      generalize qs[i] = w at *
      obtain ⟨d, hd⟩ : ∃ d, cs[i]? = some d := ⟨_, List.getElem?_eq_getElem (by omega)⟩
      simp only [gName, List.set_cons_zero, List.set_cons_succ]
      walk_at "1"
      refine ⟨Or.inl ⟨rfl, _, .inl (.inl k1)⟩, ?_⟩
      refine ⟨_, .ref d, .inl (.inl (.inl k1)), at_end (n := i) (by rw [List.length_map, k2]) (by rw [List.getElem?_map, hd]; rfl), ?_⟩
      refine ⟨c, d, fnOf w, levelQ qs i, rfl, rfl, by rw [six_fn m6]; exact tq, k3 i d hd, fun r H6 s6 nr gr => ?_⟩
      refine ⟨lt, _, .ref r, rfl, rfl, s6 _ _ k1, by rw [List.length_map, k2, sizeLine_eq]; omega, ?_⟩
      have k1' := s6 _ _ k1
      have nrl : r ≠ lt := by rintro rfl; rw [k1] at nr; cases nr
      have o7 : Off lt H6 (upd H6 lt (.lst (cs.map V.ref ++ [.ref r]))) := off_upd
      refine ⟨⟨_, rfl⟩, (Off.trans (Same.off (s5.trans s6)) o7).same nt, cs ++ [r], by rw [upd_same, List.map_append]; rfl, by rw [List.length_append, k2]; rfl, fun j c2 e => ?_⟩
      by_cases lj : j < cs.length
      · rw [List.getElem?_append_left lj] at e
        exact o7.sqT k1' (Same.sqT s6 (k3 j c2 e))
      · have ej : j = i + 1 := by
          have := (List.getElem?_eq_some_iff.mp e).1
          rw [List.length_append, List.length_singleton] at this
          omega
        subst ej
        rw [List.getElem?_append_right (by omega), k2, Nat.sub_self] at e
        cases e
        rw [next]
        exact o7.sqT k1' (.inl (.inl gr))
    · rintro τ H5 ⟨⟨o5, rfl⟩, s5, cs, k1, k2, k3⟩
      walk_at "1"
      refine ⟨_, rfl, _, rfl, _, rfl, fun y dy ny nd ne => ?_⟩
      have s6 : Same H5 (upd (upd H5 dy (.own y)) y (.ins (He.ga K "Reckoning") dy [])) := fun b o e => by
        rw [upd_ne (ne_of_none e ny), upd_ne (ne_of_none e nd)]
        exact e
      have gy : upd (upd H5 dy (.own y)) y (.ins (He.ga K "Reckoning") dy []) y = some (.ins (He.ga K "Reckoning") dy []) := upd_same
      generalize upd (upd H5 dy (.own y)) y (.ins (He.ga K "Reckoning") dy []) = H6 at *
      refine ⟨y, dy, B, rfl, rfl, gy, fun H7 o7 g7 => ⟨rfl, ?_⟩⟩
      have s57 : Same H5 H7 := (Off.trans (Same.off s6) o7).same ny
      have s15 := s1.trans (s2.trans (s3.trans s5))
      refine q y H7 (s15.trans s57) (s15.free ny) ⟨g, lp, lt, hg, ?_, ?_, ?_⟩
      · rw [hB]
        exact ⟨dy, _, g7, .inl rfl⟩
      · rw [hB, hqs]
        exact pr3.same (s5.trans s57)
      · rw [hB, hqs]
        have lt2 : cs.length = qs.length + 1 := by rw [k2, List.length_map, p2]
        refine ⟨cs, s57 _ _ k1, ?_, fun i b w z1 z2 => ?_⟩
        · unfold towersL
          rw [List.length_map, List.length_range, lt2]
        · unfold towersL at z2
          rw [List.getElem?_map] at z2
          obtain ⟨k, hk, rfl⟩ := Option.map_eq_some_iff.mp z2
          have ek : k = i := by
            have := (List.getElem?_eq_some_iff.mp hk).2
            rw [List.getElem_range] at this
            exact this.symm
          subst ek
          exact Same.sqT s57 (k3 k b z1)
end
end U
namespace U
open PySem PySem.Spec PyProof.Rows L2

/-! ### a yard and its reckoning -/
/-- what a yard keeps: nothing yet, or its reckoning -/
def Kept (K : PySem.W.Frag) (H : Hp) (rows : List (List (Option Int))) (rk : V) : Prop := rk = .non ∨ ∃ a, rk = .ref a ∧ RkO K H a rows
/-- a yard as its maker left it, or as its reckoning left it -/
def YdK (K : PySem.W.Frag) (H : Hp) (y : Addr) (rows : List (List (Option Int))) : Prop := Yd K H y rows ∧ PricesOk rows ∧ ∃ dx t rk, H y = some (.ins (He.ga K "Yard") dx [("_rows", .ref t), ("_reckoning", rk)]) ∧ Kept K H rows rk
/-- a yard keeps this reckoning -/
def YdR (K : PySem.W.Frag) (H : Hp) (y a : Addr) : Prop := ∃ dx t, H y = some (.ins (He.ga K "Yard") dx [("_rows", .ref t), ("_reckoning", .ref a)])
def sp_Yard_reckoning (K : PySem.W.Frag) : Sp := sp1 fun x H Q _ => ∃ y rows, x = .ref y ∧ YdK K H y rows ∧ ∀ a H', Off y H H' → YdK K H' y rows → RkO K H' a rows → YdR K H' y a → (YdR K H y a ∨ H a = none) → (∀ a0, YdR K H y a0 → Same H H') → Q (.ref a) H'
def t_Yard_reckoning (K : PySem.W.Frag) (E : XK) : TS := (tSeq (tIfS (tTest (tOp uIs (tFld K (tVar 0) "_reckoning") (tC .non))) (sFld K (tVar 0) (tFn (sp_reckoning_of K) E (tCons (tFld K (tVar 0) "_rows") tNil)) "_reckoning") tNext) (tRet (tFld K (tVar 0) "_reckoning")))
section
variable {K : PySem.W.Frag} (F : KF K) (R : KR K) {vs : List V} {H : Hp} {Q : VK} {E : XK}
local macro_rules | `(tactic| walk_at "w") => `(tactic| try simp only [turnE, lcT, Snoc, tRet, tRetN, tAndV, tOrV, tNotV, tCB, tCons, tVar, tNil, tC, tOp, tSeq, tAsg, gName, gSub, tIfS, tDrop, tFn, tTup, tLst, tNext, tB, tTest, tNot, tAnd, tOr, tIf, tChain, tUn, rU, tFld, tPart, tNoPart, L2.tSl, tBM, tPar, tPar3, tTruth, tDNewK,
  L2.start, List.map_cons, List.map_nil, List.length_cons, List.length_nil, List.replicate_succ, List.replicate_zero, List.append_nil, List.nil_append, List.cons_append, List.singleton_append, Nat.sub_self, Nat.zero_add, Nat.reduceAdd, Nat.reduceSub,
  List.getElem?_cons_zero, List.getElem?_cons_succ, List.set_cons_zero, List.set_cons_succ, Option.some.injEq, exists_eq_left, exists_eq_left', V.int.injEq, V.bl.injEq, V.str.injEq, V.ref.injEq,
  uAdd_int, uAdd_str, uSub_int, uMul_int, uMul_str, uDiv_int, uMod_int, uPow_int, uLt_int, uLe_int, uGt_int, uGe_int, uIs_non, uNis_non, uIs_bl, uNis_bl, sp1, sp2, sp3, sp4, uEq_int, uEq_str, uNe_int, uNe_str, uSl_str, uLen_str, decide_eq_true_eq])
local macro_rules | `(tactic| walk_at "1") => `(tactic| try simp only [turnE, lcT, Snoc, tRet, tRetN, tAndV, tOrV, tNotV, tCB, tCons, tVar, tNil, tC, tOp, tAsg, gName, gSub, tIfS, tDrop, tFn, tTup, tLst, tNext, tB, tTest, tNot, tAnd, tOr, tIf, tChain, tUn, rU, tFld, tPart, tNoPart, L2.tSl, tBM, tPar, tPar3, tTruth, tDNewK,
  L2.start, List.map_cons, List.map_nil, List.length_cons, List.length_nil, List.replicate_succ, List.replicate_zero, List.append_nil, List.nil_append, List.cons_append, List.singleton_append, Nat.sub_self, Nat.zero_add, Nat.reduceAdd, Nat.reduceSub,
  List.getElem?_cons_zero, List.getElem?_cons_succ, List.set_cons_zero, List.set_cons_succ, Option.some.injEq, exists_eq_left, exists_eq_left', V.int.injEq, V.bl.injEq, V.str.injEq, V.ref.injEq,
  uAdd_int, uAdd_str, uSub_int, uMul_int, uMul_str, uDiv_int, uMod_int, uPow_int, uLt_int, uLe_int, uGt_int, uGe_int, uIs_non, uNis_non, uIs_bl, uNis_bl, sp1, sp2, sp3, sp4, uEq_int, uEq_str, uNe_int, uNe_str, uSl_str, uLen_str, decide_eq_true_eq])
local macro_rules | `(tactic| walk_at "s") => `(tactic| ((try dsimp only [turnE]); with_reducible refine seq_ ?_))

theorem RkN0.same {H' : Hp} {a : Addr} {B : Int} {qs : List (List Int)} (e : Same H H') (h : RkN0 K H a B qs) : RkN0 K H' a B qs := by
  obtain ⟨lp, lt, ⟨dx, bk, ha⟩, p1, p2⟩ := h
  exact ⟨lp, lt, ⟨dx, bk, e _ _ ha⟩, p1.same e, p2.same e⟩
theorem Bk.same {H' : Hp} {bk : V} {B : Int} {qs : List (List Int)} (e : Same H H') (h : Bk K H bk B qs) : Bk K H' bk B qs := h.imp id fun ⟨b, z, r⟩ => ⟨b, z, r.same e⟩
theorem RkO.same {H' : Hp} {a : Addr} {rows : List (List (Option Int))} (e : Same H H') (h : RkO K H a rows) : RkO K H' a rows := by
  obtain ⟨g, lp, lt, hg, ⟨dx, bk, ha, kb⟩, p1, p2⟩ := h
  exact ⟨g, lp, lt, hg, ⟨dx, bk, e _ _ ha, kb.same e⟩, p1.same e, p2.same e⟩
theorem PrB.off {H' : Hp} {y l C dx : Addr} {fs : List (Str × V)} {qs : List (List Int)} (e : Off y H H') (hy : H y = some (.ins C dx fs)) (h : PrB K H l qs) : PrB K H' l qs := by
  obtain ⟨bs, h1, h2, h3⟩ := h
  exact ⟨bs, e _ _ (by rintro rfl; rw [hy] at h1; cases h1) h1, h2, fun i b q z1 z2 => e.sqT_ins hy (h3 i b q z1 z2)⟩
theorem RkN0.off {H' : Hp} {y a dx : Addr} {fs : List (Str × V)} {B : Int} {qs : List (List Int)} (ne : He.ga K "Yard" ≠ He.ga K "Reckoning") (e : Off y H H') (hy : H y = some (.ins (He.ga K "Yard") dx fs)) (h : RkN0 K H a B qs) : RkN0 K H' a B qs := by
  obtain ⟨lp, lt, ⟨d2, bk, ha⟩, p1, p2⟩ := h
  refine ⟨lp, lt, ⟨d2, bk, e _ _ ?_ ha⟩, p1.off e hy, p2.off e hy⟩
  rintro rfl
  rw [hy] at ha
  injection ha with ha
  injection ha with h1
  exact ne h1
theorem RkO.off {H' : Hp} {y a dx : Addr} {fs : List (Str × V)} {rows : List (List (Option Int))} (ne : He.ga K "Yard" ≠ He.ga K "Reckoning") (e : Off y H H') (hy : H y = some (.ins (He.ga K "Yard") dx fs)) (h : RkO K H a rows) : RkO K H' a rows := by
  obtain ⟨g, lp, lt, hg, ⟨d2, bk, ha, kb⟩, p1, p2⟩ := h
  refine ⟨g, lp, lt, hg, ⟨d2, bk, e _ _ ?_ ha, kb.imp id fun ⟨b, z, r⟩ => ⟨b, z, r.off ne e hy⟩⟩, p1.off e hy, p2.off e hy⟩
  rintro rfl
  rw [hy] at ha
  injection ha with ha
  injection ha with h1
  exact ne h1
include F R in
theorem read_Yard_reckoning (h : sp_Yard_reckoning K vs H Q E) : t_Yard_reckoning K E { nx := fun _ H' => Q .non H', rt := Q } (start ["self"] vs) H := by
  match vs, h with
  | [_], ⟨y, rows, rfl, ⟨hy, ok, dx, t, rk, gy, hk⟩, q⟩ =>
    unfold t_Yard_reckoning
    walk_at "s"
    walk_at "1"
    refine ⟨y, _, dx, _, rk, rfl, gy, F.cl, F.na2, rfl, ?_⟩
    rcases hk with rfl | ⟨a, rfl, ra⟩
    · rw [if_pos rfl]
      simp only [sFld]
      walk_at "1"
      refine ⟨y, _, dx, _, .ref t, rfl, gy, F.cl, F.na, rfl, ?_⟩
      obtain ⟨dx0, t0, as, ⟨rk0, y1⟩, y2, y3, y4, y5, y6, y7⟩ := id hy
      obtain ⟨rfl, rfl, rfl⟩ : dx = dx0 ∧ t = t0 ∧ V.non = rk0 := by
        rw [gy] at y1
        injection y1 with y1
        injection y1 with _ e1 e2
        simp at e2
        exact ⟨e1, e2.1, e2.2⟩
      refine ⟨t, rows, rfl, ⟨as, y2, y3, y4, y6, fun r m => (y7 r m).1⟩, ok, fun a H1 s1 na ra => ?_⟩
      refine ⟨y, _, dx, _, rfl, s1 _ _ gy, F.cl, F.na2, by show (2 : Nat) < 1000; decide, ?_⟩
      have ep : putF "_reckoning" (.ref a) ([("_rows", .ref t), ("_reckoning", .non)] : List (Str × V)) = ([("_rows", .ref t), ("_reckoning", .ref a)] : List (Str × V)) := rfl
      rw [ep]
      have gy1 := s1 _ _ gy
      have o2 : Off y H1 (upd H1 y (.ins (He.ga K "Yard") dx [("_rows", .ref t), ("_reckoning", .ref a)])) := off_upd
      have g2 : upd H1 y (.ins (He.ga K "Yard") dx [("_rows", .ref t), ("_reckoning", .ref a)]) y = some (.ins (He.ga K "Yard") dx [("_rows", .ref t), ("_reckoning", .ref a)]) := upd_same
      generalize upd H1 y (.ins (He.ga K "Yard") dx [("_rows", .ref t), ("_reckoning", .ref a)]) = H2 at *
      refine ⟨y, _, dx, _, .ref a, rfl, g2, F.cl, F.na2, rfl, ?_⟩
      have ra2 := ra.off R.ne o2 gy1
      refine q a H2 (Off.trans (Same.off s1) o2) ⟨⟨dx, t, as, ⟨_, g2⟩, o2.sqT_ins gy1 (Same.sqT s1 y2), y3, y4, y5, fun i b r z1 z2 => o2.sqT_ins gy1 (Same.sqT s1 (y6 i b r z1 z2)), y7⟩, ok, dx, t, _, g2, .inr ⟨a, rfl, ra2⟩⟩ ra2 ⟨dx, t, g2⟩ (.inr na) fun a0 ⟨d0, t0, z⟩ => by
        rw [gy] at z
        simp at z
    · rw [if_neg (by simp)]
      refine ⟨y, _, dx, _, .ref a, rfl, gy, F.cl, F.na2, rfl, ?_⟩
      exact q a H Off.refl ⟨hy, ok, dx, t, _, gy, .inr ⟨a, rfl, ra⟩⟩ ra ⟨dx, t, gy⟩ (.inl ⟨dx, t, gy⟩) fun _ _ => Same.refl H
end
end U
namespace U
open PySem PySem.Spec PyProof.Rows L2

/-! ### tables and costs from tower to tower -/
end U
namespace U
open PySem PySem.Spec PyProof.Rows L2

/-- what a look at a yard's costs leaves as it was -/
structure Mild (K : PySem.W.Frag) (p : Addr) (H H' : Hp) : Prop where
  fl : ∀ b o, (∀ C dx fs, o ≠ .ins C dx fs) → H b = some o → H' b = some o
  bs : ∀ H0, Same H0 H → H0 p = none → (∀ a, YdR K H p a → H0 a = none) → Same H0 H' ∧ ∀ a, YdR K H' p a → H0 a = none
  sm : ∀ a, YdR K H p a → Same H H'
theorem YdR.same {K : PySem.W.Frag} {p a : Addr} {H H' : Hp} (h : YdR K H p a) (e : Same H H') : YdR K H' p a := by
  obtain ⟨dx, t, z⟩ := h
  exact ⟨dx, t, e _ _ z⟩
theorem Mild.trans {K : PySem.W.Frag} {p : Addr} {H H' H2 : Hp} (h : Mild K p H H') (g : Mild K p H' H2) : Mild K p H H2 where
  fl := fun b o n e => g.fl b o n (h.fl b o n e)
  bs := fun H0 s n r => by
    obtain ⟨s1, r1⟩ := h.bs H0 s n r
    exact g.bs H0 s1 n r1
  sm := fun a r => (h.sm a r).trans (g.sm a (r.same (h.sm a r)))
theorem Mild.of_same {K : PySem.W.Frag} {p : Addr} {H H' : Hp} {o : HO} (hp : H p = some o) (e : Same H H') : Mild K p H H' where
  fl := fun b o _ z => e b o z
  bs := fun H0 s n r => ⟨s.trans e, fun a ⟨dx, t, z⟩ => r a ⟨dx, t, by
    have := e p o hp
    rw [this] at z
    rw [hp]
    exact z⟩⟩
  sm := fun _ _ => e
/-- the yard gets its reckoning -/
theorem mild_reck {K : PySem.W.Frag} {p a : Addr} {H H' : Hp} {C dx : Addr} {fs : List (Str × V)} (hp : H p = some (.ins C dx fs)) (o : Off p H H') (yr : YdR K H' p a) (old : YdR K H p a ∨ H a = none) (sm : ∀ a0, YdR K H p a0 → Same H H') : Mild K p H H' := by
  refine ⟨fun b u n e => o b u (fun z => ?_) e, fun H0 s n r => ⟨fun b u e => o b u (fun z => by rw [z, n] at e; cases e) (s b u e), fun b ⟨d2, t2, z⟩ => ?_⟩, sm⟩
  · rw [z, hp] at e
    injection e with e
    exact n _ _ _ e.symm
  · obtain ⟨d1, t1, z1⟩ := yr
    have : b = a := by
      rw [z1] at z
      simp at z
      exact z.2.2.symm
    subst this
    rcases old with h | h
    · exact r b h
    · cases e : H0 b with
      | none => rfl
      | some u => rw [s b u e] at h; cases h
/-! ### refusals -/
def BadY (K : PySem.W.Frag) (H : Hp) (y : V) (E : XK) : Prop := ∃ a, Is K H y a ∧ (a ≠ .yard ∧ Rz K "InvalidYard" "value" y H E)
theorem BadY.or {K : PySem.W.Frag} {H : Hp} {y : V} {E : XK} {k : List (List (Option Int)) → Prop} (h : BadY K H y E) : YardOr K H y E k := by
  obtain ⟨a, h1, h2, h3⟩ := h
  exact ⟨a, h1, fun _ => h3, fun z => (h2 z).elim⟩
theorem BadY.chk {K : PySem.W.Frag} {H : Hp} {y : V} {E : XK} {Q : VK} (h : BadY K H y E) : sp_check_yard K [y] H Q E := by
  obtain ⟨a, h1, h2, h3⟩ := h
  exact ⟨a, h1, fun z => (h2 z).elim, fun _ => h3⟩
def BadW (K : PySem.W.Frag) (H : Hp) (x : V) (E : XK) : Prop := ∃ a, Is K H x a ∧ (isWy x = false ∧ Rz K "InvalidWay" "value" x H E)
theorem BadW.chk {K : PySem.W.Frag} {H : Hp} {y : V} {E : XK} {Q : VK} (h : BadW K H y E) : sp_check_way K [y] H Q E := by
  obtain ⟨a, h1, h2, h3⟩ := h
  exact ⟨a, h1, fun z => by rw [h2] at z; (cases z), fun _ => h3⟩
end U
namespace U
open PySem PySem.Spec PyProof.Rows L2

/-- a list of new objects of any kind -/
theorem lc_freshO {J : It} {G : Hp → Prop} {xs : List V} (P : Plain J xs G) (f : Nat → HO) {te : TE} {j : Nat} {σ : L2.St} {H : Hp} {D : Addr} {Qd : Hp → Prop} (hD : H D = none) (hl : xs.length ≤ 1000) (hG : ∀ H', Same H H' → G H')
    (hs : ∀ i x H2 (Q : VK), xs[i]? = some x → Same H H2 → (∀ l H3, H2 l = none → Same H2 H3 → H3 l = some (f i) → Q (.ref l) H3) → te (σ.set j (some x)) H2 Q)
    (hd : ∀ (H2 : Hp) (ls : List Addr), Same H H2 → ls.length = xs.length → H2 D = some (.lst (ls.map V.ref)) → (∀ (i : Nat) (l : Addr), ls[i]? = some l → H2 l = some (f i)) → ls.Nodup → D ∉ ls → (∀ l ∈ ls, H l = none) → Qd H2) : LcB J (gName j) tYes te [j] σ H D Qd := by
  refine lc_plain P (fun i H' => Same H H' ∧ ∃ ls : List Addr, H' D = some (.lst (ls.map V.ref)) ∧ ls.length = i ∧ D ∉ ls ∧ (∀ (j : Nat) (a : Addr), ls[j]? = some a → H' a = some (f j)) ∧ ls.Nodup ∧ ∀ l ∈ ls, H l = none)
    ⟨same_new hD, [], upd_same, rfl, (fun m => nomatch m), (fun j a z => nomatch z), .nil, fun l m => nomatch m⟩ (fun i H' z => hG _ z.1) ?_ (fun H2 ⟨s2, ls, gD, hl, nD, at_, nd, fr⟩ => hd H2 ls s2 hl gD at_ nd nD fr)
  rintro i x H2 hx ⟨s2, ls, gD, hll, nD, at_, nd, fr⟩
  have hi : i < xs.length := (List.getElem?_eq_some_iff.mp hx).1
  show wipe _ [j] = wipe σ [j] ∧ _
  refine ⟨by simp only [wipe, List.set_set], ?_⟩
  show te ((σ.set j none).set j (some x)) H2 _
  rw [List.set_set]
  refine hs i x H2 _ hx s2 fun l H3 nl s3 gl => ?_
  have lD : l ≠ D := by rintro rfl; rw [gD] at nl; cases nl
  have lls : l ∉ ls := fun m => by
    obtain ⟨k, lt, e⟩ := List.mem_iff_getElem.mp m
    have := at_ k l (by rw [← e]; exact List.getElem?_eq_getElem lt)
    rw [this] at nl
    cases nl
  refine ⟨_, s3 _ _ gD, ?_, (Off.trans (Same.off (s2.trans s3)) off_upd).same hD, ls ++ [l], by rw [upd_same]; simp, by simp [hll], ?_, ?_, ?_, ?_⟩
  · rw [List.length_map, hll]
    exact Nat.lt_of_lt_of_le (show i < 1001 by omega) (by decide)
  · rintro m
    rcases List.mem_append.mp m with m | m
    · exact nD m
    · exact lD (List.mem_singleton.mp m).symm
  · rintro k y z1
    have yD : y ≠ D := by
      rintro rfl
      rcases List.mem_append.mp (List.mem_of_getElem? z1) with m | m
      · exact nD m
      · exact lD (List.mem_singleton.mp m).symm
    rw [upd_ne yD]
    by_cases e : k < ls.length
    · rw [List.getElem?_append_left e] at z1
      exact s3 _ _ (at_ k y z1)
    · have e2 : k = ls.length := by
        have := (List.getElem?_eq_some_iff.mp z1).1
        simp at this
        omega
      subst e2
      rw [List.getElem?_append_right (Nat.le_refl _), Nat.sub_self] at z1
      cases z1
      rw [← hll] at gl
      exact gl
  · rw [List.nodup_append]
    refine ⟨nd, by simp, fun x hx y hy => ?_⟩
    rw [List.mem_singleton.mp hy]
    rintro rfl
    exact lls hx
  · intro y m
    rcases List.mem_append.mp m with m | m
    · exact fr y m
    · rw [List.mem_singleton.mp m]
      cases e : H l with
      | none => rfl
      | some o => rw [s2 _ _ e] at nl; cases nl
section
variable {K : PySem.W.Frag} (F : KF K) (R : KR K) {vs : List V} {H : Hp} {Q : VK} {E : XK}
local macro_rules | `(tactic| walk_at "w") => `(tactic| try simp only [turnE, lcT, Snoc, tRet, tRetN, tAndV, tOrV, tNotV, tCB, tCons, tVar, tNil, tC, tOp, tSeq, tAsg, gName, gSub, tIfS, tDrop, tFn, tTup, tLst, tNext, tB, tTest, tNot, tAnd, tOr, tIf, tChain, tUn, rU, tFld, tPart, tNoPart, L2.tSl, tBM, tPar, tPar3, tTruth, tDNewK,
  L2.start, List.map_cons, List.map_nil, List.length_cons, List.length_nil, List.replicate_succ, List.replicate_zero, List.append_nil, List.nil_append, List.cons_append, List.singleton_append, Nat.sub_self, Nat.zero_add, Nat.reduceAdd, Nat.reduceSub,
  List.getElem?_cons_zero, List.getElem?_cons_succ, List.set_cons_zero, List.set_cons_succ, Option.some.injEq, exists_eq_left, exists_eq_left', V.int.injEq, V.bl.injEq, V.str.injEq, V.ref.injEq,
  uAdd_int, uAdd_str, uSub_int, uMul_int, uMul_str, uDiv_int, uMod_int, uPow_int, uLt_int, uLe_int, uGt_int, uGe_int, uIs_non, uNis_non, uIs_bl, uNis_bl, sp1, sp2, sp3, sp4, uEq_int, uEq_str, uNe_int, uNe_str, uSl_str, uLen_str, decide_eq_true_eq])
local macro_rules | `(tactic| walk_at "1") => `(tactic| try simp only [turnE, lcT, Snoc, tRet, tRetN, tAndV, tOrV, tNotV, tCB, tCons, tVar, tNil, tC, tOp, tAsg, gName, gSub, tIfS, tDrop, tFn, tTup, tLst, tNext, tB, tTest, tNot, tAnd, tOr, tIf, tChain, tUn, rU, tFld, tPart, tNoPart, L2.tSl, tBM, tPar, tPar3, tTruth, tDNewK,
  L2.start, List.map_cons, List.map_nil, List.length_cons, List.length_nil, List.replicate_succ, List.replicate_zero, List.append_nil, List.nil_append, List.cons_append, List.singleton_append, Nat.sub_self, Nat.zero_add, Nat.reduceAdd, Nat.reduceSub,
  List.getElem?_cons_zero, List.getElem?_cons_succ, List.set_cons_zero, List.set_cons_succ, Option.some.injEq, exists_eq_left, exists_eq_left', V.int.injEq, V.bl.injEq, V.str.injEq, V.ref.injEq,
  uAdd_int, uAdd_str, uSub_int, uMul_int, uMul_str, uDiv_int, uMod_int, uPow_int, uLt_int, uLe_int, uGt_int, uGe_int, uIs_non, uNis_non, uIs_bl, uNis_bl, sp1, sp2, sp3, sp4, uEq_int, uEq_str, uNe_int, uNe_str, uSl_str, uLen_str, decide_eq_true_eq])
local macro_rules | `(tactic| walk_at "s") => `(tactic| ((try dsimp only [turnE]); with_reducible refine seq_ ?_))

theorem len6_of {y : Addr} {rows : List (List (Option Int))} (h : Yd K H y rows) : ∀ r ∈ rows, r.length = 6 := by
  obtain ⟨dx, t, as, _, _, _, _, _, _, y7⟩ := h
  exact fun r m => (y7 r m).1
theorem YdK.same {H' : Hp} {y : Addr} {rows : List (List (Option Int))} (e : Same H H') (h : YdK K H y rows) : YdK K H' y rows := by
  obtain ⟨h1, h2, dx, t, rk, gy, hk⟩ := h
  refine ⟨h1.same e, h2, dx, t, rk, e _ _ gy, ?_⟩
  rcases hk with rfl | ⟨a, rfl, ra⟩
  · exact .inl rfl
  · exact .inr ⟨a, rfl, ra.same e⟩
theorem is_way {i j : Nat} (hi : i < 3) (hj : j < 3) (n : i ≠ j) : isWy (.str (wd [i, j])) = true := by
  rcases (show i = 0 ∧ j = 1 ∨ i = 0 ∧ j = 2 ∨ i = 1 ∧ j = 0 ∨ i = 1 ∧ j = 2 ∨ i = 2 ∧ j = 0 ∨ i = 2 ∧ j = 1 by omega) with ⟨rfl, rfl⟩ | ⟨rfl, rfl⟩ | ⟨rfl, rfl⟩ | ⟨rfl, rfl⟩ | ⟨rfl, rfl⟩ | ⟨rfl, rfl⟩ <;> decide +kernel
end
end U
namespace U
open PySem PySem.Spec PyProof.Rows L2

/-! ### the ways on which a crate moves just once -/
section
variable {K : PySem.W.Frag} (F : KF K) {vs : List V} {H : Hp} {Q : VK} {E : XK}
local macro_rules | `(tactic| walk_at "w") => `(tactic| try simp only [turnE, lcT, Snoc, tRet, tRetN, tAndV, tOrV, tNotV, tCB, tCons, tVar, tNil, tC, tOp, tSeq, tAsg, gName, gSub, tIfS, tDrop, tFn, tTup, tLst, tNext, tB, tTest, tNot, tAnd, tOr, tIf, tChain, tUn, rU, tFld, tPart, tNoPart, L2.tSl, tBM, tPar, tPar3, tTruth, tDNewK,
  L2.start, List.map_cons, List.map_nil, List.length_cons, List.length_nil, List.replicate_succ, List.replicate_zero, List.append_nil, List.nil_append, List.cons_append, List.singleton_append, Nat.sub_self, Nat.zero_add, Nat.reduceAdd, Nat.reduceSub,
  List.getElem?_cons_zero, List.getElem?_cons_succ, List.set_cons_zero, List.set_cons_succ, Option.some.injEq, exists_eq_left, exists_eq_left', V.int.injEq, V.bl.injEq, V.str.injEq, V.ref.injEq,
  uAdd_int, uAdd_str, uSub_int, uMul_int, uMul_str, uDiv_int, uMod_int, uPow_int, uLt_int, uLe_int, uGt_int, uGe_int, uIs_non, uNis_non, uIs_bl, uNis_bl, sp1, sp2, sp3, sp4, uEq_int, uEq_str, uNe_int, uNe_str, uSl_str, uLen_str, decide_eq_true_eq])
local macro_rules | `(tactic| walk_at "1") => `(tactic| try simp only [turnE, lcT, Snoc, tRet, tRetN, tAndV, tOrV, tNotV, tCB, tCons, tVar, tNil, tC, tOp, tAsg, gName, gSub, tIfS, tDrop, tFn, tTup, tLst, tNext, tB, tTest, tNot, tAnd, tOr, tIf, tChain, tUn, rU, tFld, tPart, tNoPart, L2.tSl, tBM, tPar, tPar3, tTruth, tDNewK,
  L2.start, List.map_cons, List.map_nil, List.length_cons, List.length_nil, List.replicate_succ, List.replicate_zero, List.append_nil, List.nil_append, List.cons_append, List.singleton_append, Nat.sub_self, Nat.zero_add, Nat.reduceAdd, Nat.reduceSub,
  List.getElem?_cons_zero, List.getElem?_cons_succ, List.set_cons_zero, List.set_cons_succ, Option.some.injEq, exists_eq_left, exists_eq_left', V.int.injEq, V.bl.injEq, V.str.injEq, V.ref.injEq,
  uAdd_int, uAdd_str, uSub_int, uMul_int, uMul_str, uDiv_int, uMod_int, uPow_int, uLt_int, uLe_int, uGt_int, uGe_int, uIs_non, uNis_non, uIs_bl, uNis_bl, sp1, sp2, sp3, sp4, uEq_int, uEq_str, uNe_int, uNe_str, uSl_str, uLen_str, decide_eq_true_eq])
local macro_rules | `(tactic| walk_at "s") => `(tactic| ((try dsimp only [turnE]); with_reducible refine seq_ ?_))

theorem Each.same {H' : Hp} {r : Addr} {D : Nat → Nat → Int} (e : Same H H') (h : Each H r D) : Each H' r D := by
  obtain ⟨q0, q1, q2, h1, h2, h3, h4⟩ := h
  exact ⟨q0, q1, q2, e _ _ h1, e _ _ h2, e _ _ h3, e _ _ h4⟩
end
end U
namespace U
open PySem PySem.Spec PyProof.Rows L2

/-! ### straight_ways -/
section
variable {K : PySem.W.Frag} (F : KF K) (R : KR K) {vs : List V} {H : Hp} {Q : VK} {E : XK}
local macro_rules | `(tactic| walk_at "w") => `(tactic| try simp only [turnE, lcT, Snoc, tRet, tRetN, tAndV, tOrV, tNotV, tCB, tCons, tVar, tNil, tC, tOp, tSeq, tAsg, gName, gSub, tIfS, tDrop, tFn, tTup, tLst, tNext, tB, tTest, tNot, tAnd, tOr, tIf, tChain, tUn, rU, tFld, tPart, tNoPart, L2.tSl, tBM, tPar, tPar3, tTruth, tDNewK,
  L2.start, List.map_cons, List.map_nil, List.length_cons, List.length_nil, List.replicate_succ, List.replicate_zero, List.append_nil, List.nil_append, List.cons_append, List.singleton_append, Nat.sub_self, Nat.zero_add, Nat.reduceAdd, Nat.reduceSub,
  List.getElem?_cons_zero, List.getElem?_cons_succ, List.set_cons_zero, List.set_cons_succ, Option.some.injEq, exists_eq_left, exists_eq_left', V.int.injEq, V.bl.injEq, V.str.injEq, V.ref.injEq,
  uAdd_int, uAdd_str, uSub_int, uMul_int, uMul_str, uDiv_int, uMod_int, uPow_int, uLt_int, uLe_int, uGt_int, uGe_int, uIs_non, uNis_non, uIs_bl, uNis_bl, sp1, sp2, sp3, sp4, uEq_int, uEq_str, uNe_int, uNe_str, uSl_str, uLen_str, decide_eq_true_eq])
local macro_rules | `(tactic| walk_at "1") => `(tactic| try simp only [turnE, lcT, Snoc, tRet, tRetN, tAndV, tOrV, tNotV, tCB, tCons, tVar, tNil, tC, tOp, tAsg, gName, gSub, tIfS, tDrop, tFn, tTup, tLst, tNext, tB, tTest, tNot, tAnd, tOr, tIf, tChain, tUn, rU, tFld, tPart, tNoPart, L2.tSl, tBM, tPar, tPar3, tTruth, tDNewK,
  L2.start, List.map_cons, List.map_nil, List.length_cons, List.length_nil, List.replicate_succ, List.replicate_zero, List.append_nil, List.nil_append, List.cons_append, List.singleton_append, Nat.sub_self, Nat.zero_add, Nat.reduceAdd, Nat.reduceSub,
  List.getElem?_cons_zero, List.getElem?_cons_succ, List.set_cons_zero, List.set_cons_succ, Option.some.injEq, exists_eq_left, exists_eq_left', V.int.injEq, V.bl.injEq, V.str.injEq, V.ref.injEq,
  uAdd_int, uAdd_str, uSub_int, uMul_int, uMul_str, uDiv_int, uMod_int, uPow_int, uLt_int, uLe_int, uGt_int, uGe_int, uIs_non, uNis_non, uIs_bl, uNis_bl, sp1, sp2, sp3, sp4, uEq_int, uEq_str, uNe_int, uNe_str, uSl_str, uLen_str, decide_eq_true_eq])
local macro_rules | `(tactic| walk_at "s") => `(tactic| ((try dsimp only [turnE]); with_reducible refine seq_ ?_))

end
end U
namespace U
open PySem PySem.Spec PyProof.Rows L2

/-! ### from an arrangement to the towers -/
/-- the costs to the towers of one crate more, at s at first; u: those of its rest -/
def fromP (f D : Nat → Nat → Int) (u : Nat → Int) (s j : Nat) : Int := if j = s then u j else min (u (3 - s - j) + f s j + D (3 - s - j) j) (u j + f s (3 - s - j) + D j s + f (3 - s - j) j + D s j)
def sp__from_place (K : PySem.W.Frag) : Sp := sp4 fun x y z w H Q _ => ∃ s p q r f D u, x = .str (wd [s]) ∧ s < 3 ∧ y = .ref p ∧ z = .ref q ∧ w = .ref r ∧ SqT K H p (iV (six f)) ∧ SqT K H q (iV (six D)) ∧ SqT K H r (iV (three u)) ∧ ∀ l H', Same H H' → H l = none → H' l = some (.tup (iV (three (fromP f D u s)))) → Q (.ref l) H'
def t__from_place (K : PySem.W.Frag) (E : XK) : TS := (tSeq (tAsg (tVar 2) (gTup K 6 (gCons (gName 4) (gCons (gName 5) (gCons (gName 6) (gCons (gName 7) (gCons (gName 8) (gCons (gName 9) gNil)))))))) (tSeq (tAsg (tVar 1) (gTup K 6 (gCons (gName 10) (gCons (gName 11) (gCons (gName 12) (gCons (gName 13) (gCons (gName 14) (gCons (gName 15) gNil)))))))) (tSeq (tAsg (tVar 3) (gTup K 3 (gCons (gName 16) (gCons (gName 17) (gCons (gName 18) gNil))))) (tSeq (tIfS (tTest (tOp (uEq K) (tVar 0) (tC (.str "a")))) (tRet (tTup (tCons (tVar 16) (tCons (tCB uMin2 (tCons (tOp uAdd (tOp uAdd (tVar 18) (tVar 10)) (tVar 9)) (tCons (tOp uAdd (tOp uAdd (tOp uAdd (tOp uAdd (tVar 17) (tVar 11)) (tVar 6)) (tVar 15)) (tVar 4)) tNil))) (tCons (tCB uMin2 (tCons (tOp uAdd (tOp uAdd (tVar 17) (tVar 11)) (tVar 7)) (tCons (tOp uAdd (tOp uAdd (tOp uAdd (tOp uAdd (tVar 18) (tVar 10)) (tVar 8)) (tVar 13)) (tVar 5)) tNil))) tNil))))) tNext) (tSeq (tIfS (tTest (tOp (uEq K) (tVar 0) (tC (.str "b")))) (tRet (tTup (tCons (tCB uMin2 (tCons (tOp uAdd (tOp uAdd (tVar 18) (tVar 12)) (tVar 8)) (tCons (tOp uAdd (tOp uAdd (tOp uAdd (tOp uAdd (tVar 16) (tVar 13)) (tVar 4)) (tVar 14)) (tVar 6)) tNil))) (tCons (tVar 17) (tCons (tCB uMin2 (tCons (tOp uAdd (tOp uAdd (tVar 16) (tVar 13)) (tVar 5)) (tCons (tOp uAdd (tOp uAdd (tOp uAdd (tOp uAdd (tVar 18) (tVar 12)) (tVar 9)) (tVar 11)) (tVar 7)) tNil))) tNil))))) tNext) (tRet (tTup (tCons (tCB uMin2 (tCons (tOp uAdd (tOp uAdd (tVar 17) (tVar 14)) (tVar 6)) (tCons (tOp uAdd (tOp uAdd (tOp uAdd (tOp uAdd (tVar 16) (tVar 15)) (tVar 5)) (tVar 12)) (tVar 8)) tNil))) (tCons (tCB uMin2 (tCons (tOp uAdd (tOp uAdd (tVar 16) (tVar 15)) (tVar 4)) (tCons (tOp uAdd (tOp uAdd (tOp uAdd (tOp uAdd (tVar 17) (tVar 14)) (tVar 7)) (tVar 10)) (tVar 9)) tNil))) (tCons (tVar 18) tNil))))))))))
section
variable {K : PySem.W.Frag} (F : KF K) (R : KR K) {vs : List V} {H : Hp} {Q : VK} {E : XK}
local macro_rules | `(tactic| walk_at "w") => `(tactic| try simp only [turnE, lcT, Snoc, tRet, tRetN, tAndV, tOrV, tNotV, tCB, tCons, tVar, tNil, tC, tOp, tSeq, tAsg, gName, gSub, tIfS, tDrop, tFn, tTup, tLst, tNext, tB, tTest, tNot, tAnd, tOr, tIf, tChain, tUn, rU, tFld, tPart, tNoPart, L2.tSl, tBM, tPar, tPar3, tTruth, tDNewK,
  L2.start, List.map_cons, List.map_nil, List.length_cons, List.length_nil, List.replicate_succ, List.replicate_zero, List.append_nil, List.nil_append, List.cons_append, List.singleton_append, Nat.sub_self, Nat.zero_add, Nat.reduceAdd, Nat.reduceSub,
  List.getElem?_cons_zero, List.getElem?_cons_succ, List.set_cons_zero, List.set_cons_succ, Option.some.injEq, exists_eq_left, exists_eq_left', V.int.injEq, V.bl.injEq, V.str.injEq, V.ref.injEq,
  uAdd_int, uAdd_str, uSub_int, uMul_int, uMul_str, uDiv_int, uMod_int, uPow_int, uLt_int, uLe_int, uGt_int, uGe_int, uIs_non, uNis_non, uIs_bl, uNis_bl, sp1, sp2, sp3, sp4, uEq_int, uEq_str, uNe_int, uNe_str, uSl_str, uLen_str, decide_eq_true_eq])
local macro_rules | `(tactic| walk_at "1") => `(tactic| try simp only [turnE, lcT, Snoc, tRet, tRetN, tAndV, tOrV, tNotV, tCB, tCons, tVar, tNil, tC, tOp, tAsg, gName, gSub, tIfS, tDrop, tFn, tTup, tLst, tNext, tB, tTest, tNot, tAnd, tOr, tIf, tChain, tUn, rU, tFld, tPart, tNoPart, L2.tSl, tBM, tPar, tPar3, tTruth, tDNewK,
  L2.start, List.map_cons, List.map_nil, List.length_cons, List.length_nil, List.replicate_succ, List.replicate_zero, List.append_nil, List.nil_append, List.cons_append, List.singleton_append, Nat.sub_self, Nat.zero_add, Nat.reduceAdd, Nat.reduceSub,
  List.getElem?_cons_zero, List.getElem?_cons_succ, List.set_cons_zero, List.set_cons_succ, Option.some.injEq, exists_eq_left, exists_eq_left', V.int.injEq, V.bl.injEq, V.str.injEq, V.ref.injEq,
  uAdd_int, uAdd_str, uSub_int, uMul_int, uMul_str, uDiv_int, uMod_int, uPow_int, uLt_int, uLe_int, uGt_int, uGe_int, uIs_non, uNis_non, uIs_bl, uNis_bl, sp1, sp2, sp3, sp4, uEq_int, uEq_str, uNe_int, uNe_str, uSl_str, uLen_str, decide_eq_true_eq])
local macro_rules | `(tactic| walk_at "s") => `(tactic| ((try dsimp only [turnE]); with_reducible refine seq_ ?_))

include F in
theorem read__from_place (h : sp__from_place K vs H Q E) : t__from_place K E { nx := fun _ H' => Q .non H', rt := Q } (start ["place", "prices", "towers", "below", "ab", "ac", "ba", "bc", "ca", "cb", "price_ab", "price_ac", "price_ba", "price_bc", "price_ca", "price_cb", "to_a", "to_b", "to_c"] vs) H := by
  match vs, h with
  | [_, _, _, _], ⟨s, p, b, r, f, D, u, rfl, hs, rfl, rfl, rfl, hp, hb, hr, q⟩ =>
    unfold t__from_place
    walk_at "s"
    walk_at "1"
    refine ⟨b, _, rfl, hb, rfl, un1 (un1 (un1 (un1 (un1 (un1 (un0 ?_))))))⟩
    walk_at "s"
    walk_at "1"
    refine ⟨p, _, rfl, hp, rfl, un1 (un1 (un1 (un1 (un1 (un1 (un0 ?_))))))⟩
    walk_at "s"
    walk_at "1"
    refine ⟨r, _, rfl, hr, rfl, un1 (un1 (un1 (un0 ?_)))⟩
    walk_at "s"
    walk_at "1"
    obtain rfl | rfl | rfl : s = 0 ∨ s = 1 ∨ s = 2 := by omega
    · rw [if_pos (by decide)]
      refine ⟨_, _, rfl, ⟨_, _, rfl, ⟨by decide, fun l hl => q l _ (same_new hl) hl ?_⟩⟩⟩
      rw [upd_same]
      simp only [min_int]
      rfl
    · rw [if_neg (by decide)]
      walk_at "s"
      walk_at "1"
      rw [if_pos (by decide)]
      refine ⟨_, _, rfl, ⟨_, _, rfl, ⟨by decide, fun l hl => q l _ (same_new hl) hl ?_⟩⟩⟩
      rw [upd_same]
      simp only [min_int]
      rfl
    · rw [if_neg (by decide)]
      walk_at "s"
      walk_at "1"
      rw [if_neg (by decide)]
      walk_at "1"
      refine ⟨_, _, rfl, ⟨_, _, rfl, ⟨by decide, fun l hl => q l _ (same_new hl) hl ?_⟩⟩⟩
      rw [upd_same]
      simp only [min_int]
      rfl
end
end U
namespace U
open PySem PySem.Spec PyProof.Rows L2

/-! ### the levels of the costs to the towers -/
def sp_to_towers_above (K : PySem.W.Frag) : Sp := sp4 fun x y z w H Q _ => ∃ s p q r f D u, x = .str (wd [s]) ∧ s < 3 ∧ y = .ref p ∧ z = .ref q ∧ w = .ref r ∧ SqT K H p (iV (six f)) ∧ SqT K H q (iV (six D)) ∧ SqT K H r (iV (three u)) ∧ ∀ l H', Same H H' → H l = none → H' l = some (.tup (iV (three (fromP f D u s)))) → Q (.ref l) H'
/-- of the k smallest crates of an arrangement, the smallest first -/
def toQ (qs : List (List Int)) (ss : List Nat) : Nat → Nat → Int
  | 0 => fun _ => 0
  | k + 1 => fromP (fnOf ((qs[k]?).getD [])) (levelQ qs k) (toQ qs ss k) ((ss[k]?).getD 0)
/-- the numbers of a reckoning -/
def RkN (K : PySem.W.Frag) (H : Hp) (a : Addr) (B : Int) (qs : List (List Int)) : Prop := ∃ lp lt : Addr, RkAt K H a B (.ref lp) (.ref lt) ∧ PrB K H lp qs ∧ PrB K H lt (towersL qs) ∧ (∀ q ∈ qs, q.length = 6) ∧ qs.length ≤ 60
def sp_Reckoning_to_towers (K : PySem.W.Frag) : Sp := sp2 fun x y H Q _ => ∃ a B qs ds, x = .ref a ∧ y = .str (wd ds) ∧ RkN K H a B qs ∧ D3 ds ∧ ds.length ≤ qs.length ∧
  ∀ (l : Addr) (cs : List Addr) (H' : Hp), Same H H' → H' l = some (.lst (cs.map V.ref)) → cs.length = ds.length + 1 → (∀ (k : Nat) (c : Addr), cs[k]? = some c → SqT K H' c (iV (three (toQ qs ds.reverse k)))) → Q (.ref l) H'
def t_to_towers_above (K : PySem.W.Frag) (E : XK) : TS := (tSeq (tIfS (tTest (tOp (uEq K) (tCB (uLen K) (tCons (tVar 0) tNil)) (tC (.int 1)))) (tRet (tFn (sp__from_place K) E (tCons (tVar 0) (tCons (tVar 1) (tCons (tVar 2) (tCons (tVar 3) tNil)))))) tNext) (tSeq (tAsg (tLc (iSeq K (tVar 0)) (gName 5) tYes (tFn (sp__from_place K) E0 (tCons (tVar 5) (tCons (tVar 1) (tCons (tVar 2) (tCons (tVar 3) tNil))))) [5]) (gName 4)) tNeverS))
def t_Reckoning_to_towers (K : PySem.W.Frag) (E : XK) : TS := (tSeq (tAsg (tLst (tCons (tTup (tCons (tC (.int 0)) (tCons (tC (.int 0)) (tCons (tC (.int 0)) tNil)))) tNil)) (gName 2)) (tSeq (tFor (iZip3 K (tCons (tRevS (tVar 1)) (tCons (tFld K (tVar 0) "prices") (tCons (tFld K (tVar 0) "towers") tNil)))) (gTup K 3 (gCons (gName 3) (gCons (gName 4) (gCons (gName 5) gNil)))) (tDrop (tBM K "list" rAppend (tVar 2) (tCons (tFn (sp_to_towers_above K) E (tCons (tVar 3) (tCons (tVar 4) (tCons (tVar 5) (tCons (tOp (uIx K) (tVar 2) (tUn (rU fun i => .int (-i)) (tC (.int 1)))) tNil))))) tNil)))) (tRet (tVar 2))))
section
variable {K : PySem.W.Frag} (F : KF K) (R : KR K) {vs : List V} {H : Hp} {Q : VK} {E : XK}
local macro_rules | `(tactic| walk_at "w") => `(tactic| try simp only [turnE, lcT, Snoc, tRet, tRetN, tAndV, tOrV, tNotV, tCB, tCons, tVar, tNil, tC, tOp, tSeq, tAsg, gName, gSub, tIfS, tDrop, tFn, tTup, tLst, tNext, tB, tTest, tNot, tAnd, tOr, tIf, tChain, tUn, rU, tFld, tPart, tNoPart, L2.tSl, tBM, tPar, tPar3, tTruth, tDNewK,
  L2.start, List.map_cons, List.map_nil, List.length_cons, List.length_nil, List.replicate_succ, List.replicate_zero, List.append_nil, List.nil_append, List.cons_append, List.singleton_append, Nat.sub_self, Nat.zero_add, Nat.reduceAdd, Nat.reduceSub,
  List.getElem?_cons_zero, List.getElem?_cons_succ, List.set_cons_zero, List.set_cons_succ, Option.some.injEq, exists_eq_left, exists_eq_left', V.int.injEq, V.bl.injEq, V.str.injEq, V.ref.injEq,
  uAdd_int, uAdd_str, uSub_int, uMul_int, uMul_str, uDiv_int, uMod_int, uPow_int, uLt_int, uLe_int, uGt_int, uGe_int, uIs_non, uNis_non, uIs_bl, uNis_bl, sp1, sp2, sp3, sp4, uEq_int, uEq_str, uNe_int, uNe_str, uSl_str, uLen_str, decide_eq_true_eq])
local macro_rules | `(tactic| walk_at "1") => `(tactic| try simp only [turnE, lcT, Snoc, tRet, tRetN, tAndV, tOrV, tNotV, tCB, tCons, tVar, tNil, tC, tOp, tAsg, gName, gSub, tIfS, tDrop, tFn, tTup, tLst, tNext, tB, tTest, tNot, tAnd, tOr, tIf, tChain, tUn, rU, tFld, tPart, tNoPart, L2.tSl, tBM, tPar, tPar3, tTruth, tDNewK,
  L2.start, List.map_cons, List.map_nil, List.length_cons, List.length_nil, List.replicate_succ, List.replicate_zero, List.append_nil, List.nil_append, List.cons_append, List.singleton_append, Nat.sub_self, Nat.zero_add, Nat.reduceAdd, Nat.reduceSub,
  List.getElem?_cons_zero, List.getElem?_cons_succ, List.set_cons_zero, List.set_cons_succ, Option.some.injEq, exists_eq_left, exists_eq_left', V.int.injEq, V.bl.injEq, V.str.injEq, V.ref.injEq,
  uAdd_int, uAdd_str, uSub_int, uMul_int, uMul_str, uDiv_int, uMod_int, uPow_int, uLt_int, uLe_int, uGt_int, uGe_int, uIs_non, uNis_non, uIs_bl, uNis_bl, sp1, sp2, sp3, sp4, uEq_int, uEq_str, uNe_int, uNe_str, uSl_str, uLen_str, decide_eq_true_eq])
local macro_rules | `(tactic| walk_at "s") => `(tactic| ((try dsimp only [turnE]); with_reducible refine seq_ ?_))

theorem wd_cp {es : List Nat} {i c : Nat} (h : (wd es).cps[i]? = some c) : ∃ s, es[i]? = some s ∧ c = 97 + s := by
  unfold wd at h
  rw [List.getElem?_toArray, List.getElem?_map] at h
  obtain ⟨s, hs, e⟩ := Option.map_eq_some_iff.mp h
  exact ⟨s, hs, e.symm⟩
theorem tFor_zip3 {ta : TA} {g : TG} {tb : TS} {D : Ends} {σ : L2.St} (h : ta σ H fun vs H1 => ∃ x a b xs ys, vs = [.str x, .ref a, .ref b] ∧ (SqL K H1 a xs ∧ (SqL K H1 b ys ∧ tFor (fun _ H' R => R (Itz3 K x a b) H') g tb D σ H1))) : tFor (iZip3 K ta) g tb D σ H := h
include F in
theorem read_to_towers_above (h : sp_to_towers_above K vs H Q E) : t_to_towers_above K E { nx := fun _ H' => Q .non H', rt := Q } (start ["places", "prices", "towers", "below", "ones", "place", "costs"] vs) H := by
  match vs, h with
  | [_, _, _, _], ⟨s, p, b, r, f, D, u, rfl, hs, rfl, rfl, rfl, hp, hb, hr, q⟩ =>
    unfold t_to_towers_above
    walk_at "s"
    walk_at "1"
    have l1 : (wd [s]).length = 1 := by rw [wd_length]; rfl
    refine ⟨by rw [l1]; decide, ?_⟩
    rw [l1, if_pos (by decide)]
    exact ⟨s, p, b, r, f, D, u, rfl, hs, rfl, rfl, rfl, hp, hb, hr, q⟩
include F R in
theorem read_Reckoning_to_towers (h : sp_Reckoning_to_towers K vs H Q E) : t_Reckoning_to_towers K E { nx := fun _ H' => Q .non H', rt := Q } (start ["self", "starts", "levels", "places", "prices", "towers"] vs) H := by
  match vs, h with
  | [_, _], ⟨a, B, qs, ds, rfl, rfl, ⟨lp, lt, ⟨da, bk, ga⟩, ⟨bs, b1, b2, b3⟩, ⟨ts, c1, c2, c3⟩, h6, h60⟩, d3, hl, q⟩ =>
    unfold t_Reckoning_to_towers
    walk_at "s"
    walk_at "1"
    refine ⟨by decide, fun z nz => ⟨by decide, fun l nl => ?_⟩⟩
    have s2 : Same H (upd H z (.tup (iV [0, 0, 0]))) := same_new nz
    have gz : upd H z (.tup (iV [0, 0, 0])) z = some (.tup (iV [0, 0, 0])) := upd_same
    change upd H z (.tup (iV [0, 0, 0])) l = none at nl
    show tSeq _ _ _ _ (upd (upd H z (.tup (iV [0, 0, 0]))) l (.lst [.ref z]))
    generalize upd H z (.tup (iV [0, 0, 0])) = H2 at *
    have s3 : Same H2 (upd H2 l (.lst [.ref z])) := same_new nl
    have g3 : upd H2 l (.lst [.ref z]) l = some (.lst [.ref z]) := upd_same
    generalize upd H2 l (.lst [.ref z]) = H3 at *
    have s13 := s2.trans s3
    walk_at "s"
    refine tFor_zip3 ?_
    have hw : (wd ds).length ≤ sizeLine := by rw [wd_length, sizeLine_eq]; omega
    refine ⟨.str (wd ds), rfl, wd ds, rfl, hw, fun u => ?_⟩
    rw [rev_wd2]
    have b1' := s13 _ _ b1
    have c1' := s13 _ _ c1
    refine ⟨.ref a, rfl, a, _, da, _, .ref lp, rfl, s13 _ _ ga, R.cl, R.prices, rfl, .ref a, rfl, a, _, da, _, .ref lt, rfl, s13 _ _ ga, R.cl, R.towers, rfl, wd ds.reverse, lp, lt, _, _, rfl, .inl (.inl b1'), .inl (.inl c1'), ?_⟩
    have sz : (wd ds.reverse).cps.size = ds.length := by
      show (wd ds.reverse).length = _
      rw [wd_length, List.length_reverse]
    have lc : ts.length = qs.length + 1 := by
      rw [c2]
      unfold towersL; rw [List.length_map, List.length_range]
    refine for_zip3 (K := K) (x := wd ds.reverse) (a := lp) (b := lt) (xs := bs.map V.ref) (ys := ts.map V.ref) (fun R r => r) (by rw [sz, List.length_map, b2]; exact hl) (by rw [sz, List.length_map, lc]; omega)
      (fun i τ H' => (∃ o3 o4 o5, τ = [some (.ref a), some (.str (wd ds)), some (.ref l), o3, o4, o5]) ∧ Same H2 H' ∧ ∃ cs : List Addr, H' l = some (.lst (cs.map V.ref)) ∧ cs.length = i + 1 ∧ ∀ (k : Nat) (c : Addr), cs[k]? = some c → SqT K H' c (iV (three (toQ qs ds.reverse k))))
      ⟨⟨_, _, _, rfl⟩, s3, [z], g3, rfl, fun k c e => ?_⟩ (fun i τ H' w => ⟨.inl (.inl (w.2.1 _ _ (s2 _ _ b1))), .inl (.inl (w.2.1 _ _ (s2 _ _ c1)))⟩) ?_ ?_
    · match k, e with
      | 0, e =>
        cases e
        exact .inl (.inl (s3 _ _ gz))
    · rintro i c u v τ H5 T hc hu hv ⟨⟨o3, o4, o5, rfl⟩, s5, cs, k1, k2, k3⟩ nT
      rw [List.getElem?_map] at hu hv
      obtain ⟨b, hb, rfl⟩ := Option.map_eq_some_iff.mp hu
      obtain ⟨t, ht, rfl⟩ := Option.map_eq_some_iff.mp hv
      obtain ⟨s, hs, rfl⟩ := wd_cp hc
      have ls : i < qs.length := by
        have := (List.getElem?_eq_some_iff.mp hs).1
        rw [List.length_reverse] at this
        omega
      have s3lt : s < 3 := d3 s (List.mem_reverse.mp (List.mem_of_getElem? hs))
      have hq : qs[i]? = some qs[i] := List.getElem?_eq_getElem ls
      have m6 := h6 _ (List.getElem_mem ls)
      have sT : Same H2 (upd H5 T (.tup [.str ⟨#[97 + s]⟩, .ref b, .ref t])) := s5.trans (same_new nT)
      have tb := Same.sqT (s2.trans sT) (b3 i b _ hb hq)
      have tt := Same.sqT (s2.trans sT) (c3 i t (six (levelQ qs i)) ht (by
        unfold towersL
        rw [List.getElem?_map, List.getElem?_range (by omega)]
        rfl))
      obtain ⟨d, hd⟩ : ∃ d, cs[i]? = some d := ⟨_, List.getElem?_eq_getElem (by omega)⟩
      have td : SqT K (upd H5 T (.tup [.str ⟨#[97 + s]⟩, .ref b, .ref t])) d (iV (three (toQ qs ds.reverse i))) := Same.sqT (same_new nT) (k3 i d hd)
      have next : toQ qs ds.reverse (i + 1) = fromP (fnOf qs[i]) (levelQ qs i) (toQ qs ds.reverse i) s := by
        show fromP (fnOf ((qs[i]?).getD [])) _ _ ((ds.reverse[i]?).getD 0) = _
        rw [hq, hs]
        rfl
      generalize qs[i] = w at *
      have kT : upd H5 T (.tup [.str ⟨#[97 + s]⟩, .ref b, .ref t]) l = some (.lst (cs.map V.ref)) := by
        rw [upd_ne (by rintro rfl; rw [k1] at nT; cases nT)]
        exact k1
      refine ⟨T, _, rfl, .inl (.inl upd_same), rfl, un1 (un1 (un1 (un0 ?_)))⟩
      have k3' : ∀ (k : Nat) (c : Addr), cs[k]? = some c → SqT K (upd H5 T (.tup [.str ⟨#[97 + s]⟩, .ref b, .ref t])) c (iV (three (toQ qs ds.reverse k))) := fun k c e => Same.sqT (same_new nT) (k3 k c e)
      generalize upd H5 T (.tup [.str ⟨#[97 + s]⟩, .ref b, .ref t]) = H6 at *
      simp only [List.set_cons_zero, List.set_cons_succ]
      walk_at "1"
      refine ⟨Or.inl ⟨rfl, _, .inl (.inl kT)⟩, ?_⟩
      refine ⟨_, .ref d, .inl (.inl (.inl kT)), at_end (n := i) (by rw [List.length_map, k2]) (by rw [List.getElem?_map, hd]; rfl), ?_⟩
      refine ⟨s, b, t, d, fnOf w, levelQ qs i, toQ qs ds.reverse i, rfl, s3lt, rfl, rfl, rfl, by rw [six_fn m6]; exact tb, tt, td, fun r H7 s7 nr gr => ?_⟩
      refine ⟨l, _, .ref r, rfl, rfl, s7 _ _ kT, by rw [List.length_map, k2, sizeLine_eq]; omega, ?_⟩
      have kT' := s7 _ _ kT
      have o8 : Off l H7 (upd H7 l (.lst (cs.map V.ref ++ [.ref r]))) := off_upd
      refine ⟨⟨_, _, _, rfl⟩, (Off.trans (Same.off (sT.trans s7)) o8).same nl, cs ++ [r], by rw [upd_same, List.map_append]; rfl, by rw [List.length_append, k2]; rfl, fun j c2 e => ?_⟩
      by_cases lj : j < cs.length
      · rw [List.getElem?_append_left lj] at e
        exact o8.sqT kT' (Same.sqT s7 (k3' j c2 e))
      · have ej : j = i + 1 := by
          have := (List.getElem?_eq_some_iff.mp e).1
          rw [List.length_append, List.length_singleton] at this
          omega
        subst ej
        rw [List.getElem?_append_right (by omega), k2, Nat.sub_self] at e
        cases e
        rw [next]
        exact o8.sqT kT' (.inl (.inl gr))
    · rintro τ H5 ⟨⟨o3, o4, o5, rfl⟩, s5, cs, k1, k2, k3⟩
      rw [sz] at k2
      exact ⟨_, rfl, q l cs H5 (s2.trans s5) k1 k2 k3⟩
end
end U
namespace U
open PySem PySem.Spec PyProof.Rows L2

/-! ### the ways back -/
theorem fn_six (g : Nat → Nat → Int) {i j : Nat} (hi : i < 3) (hj : j < 3) (n : i ≠ j) : fnOf (six g) i j = g i j := by
  rcases (show i = 0 ∧ j = 1 ∨ i = 0 ∧ j = 2 ∨ i = 1 ∧ j = 0 ∨ i = 1 ∧ j = 2 ∨ i = 2 ∧ j = 0 ∨ i = 2 ∧ j = 1 by omega) with ⟨rfl, rfl⟩ | ⟨rfl, rfl⟩ | ⟨rfl, rfl⟩ | ⟨rfl, rfl⟩ | ⟨rfl, rfl⟩ | ⟨rfl, rfl⟩ <;> rfl
theorem six_congr {f g : Nat → Nat → Int} (h : ∀ i j, i < 3 → j < 3 → i ≠ j → f i j = g i j) : six f = six g := by
  unfold six
  exact List.map_congr_left fun w m => by
    obtain ⟨a, b, c⟩ := waysN_ok w m
    exact h _ _ a b c
theorem levelQ_turn {qs : List (List Int)} : ∀ k, k ≤ qs.length → ∀ i j, i < 3 → j < 3 → i ≠ j → levelQ (qs.map turnQ) k i j = levelQ qs k j i := by
  intro k
  induction k with
  | zero => intro _ i j _ _ _; rfl
  | succ k ih =>
    intro hk i j hi hj n
    have ih := ih (by omega)
    have e1 : levelQ qs (k + 1) = stepN (fnOf qs[k]) (levelQ qs k) := levelQ_succ (List.getElem?_eq_getElem hk)
    have e2 : levelQ (qs.map turnQ) (k + 1) = stepN (fnOf (turnQ qs[k])) (levelQ (qs.map turnQ) k) := levelQ_succ (by rw [List.getElem?_map, List.getElem?_eq_getElem hk]; rfl)
    rw [e1, e2]
    generalize qs[k] = q at *
    have ht : 3 - i - j < 3 ∧ i ≠ 3 - i - j ∧ 3 - i - j ≠ j := by omega
    have es : 3 - j - i = 3 - i - j := by omega
    have p := fun a b (ha : a < 3) (hb : b < 3) (nab : a ≠ b) => fn_six (fun x y => fnOf q y x) ha hb nab
    show stepN (fnOf (six fun x y => fnOf q y x)) _ i j = _
    unfold stepN lineS lineT2
    rw [es, p i j hi hj n, p i _ hi ht.1 ht.2.1, p _ j ht.1 hj ht.2.2, ih i _ hi ht.1 ht.2.1, ih _ j ht.1 hj ht.2.2, ih i j hi hj n, ih j i hj hi n.symm]
    omega
def sp_Reckoning_backwards (K : PySem.W.Frag) : Sp := sp1 fun x H Q _ => ∃ (a : Addr) (B : Int) (qs : List (List Int)) (lp lt : Addr), x = .ref a ∧ (∃ dx bk, H a = some (.ins (He.ga K "Reckoning") dx (rkF B (.ref lp) (.ref lt) bk)) ∧ Bk K H bk B qs) ∧ PrB K H lp qs ∧ PrB K H lt (towersL qs) ∧ qs.length ≤ 60 ∧ (∀ q ∈ qs, q.length = 6) ∧
  ∀ (b : Addr) (H' : Hp), Off a H H' → (∃ dx bk, H' a = some (.ins (He.ga K "Reckoning") dx (rkF B (.ref lp) (.ref lt) bk)) ∧ Bk K H' bk B qs) → PrB K H' lp qs → PrB K H' lt (towersL qs) → RkN0 K H' b B (qs.map turnQ) → Q (.ref b) H'
def t_Reckoning_backwards (K : PySem.W.Frag) (E : XK) : TS := (tSeq (tIfS (tTest (tOp uIs (tFld K (tVar 0) "_backwards") (tC .non))) (tSeq (tAsg (tLc (iSeq K (tFld K (tVar 0) "prices")) (gName 2) tYes (tFn (sp_turned K) E0 (tCons (tVar 2) tNil)) [2]) (gName 1)) (sFld K (tVar 0) (tMake (He.ga K "Reckoning") (sp_Reckoning_init K) [] E (tCons (tFld K (tVar 0) "bound") (tCons (tVar 1) (tCons (tLc (iSeq K (tFld K (tVar 0) "towers")) (gName 2) tYes (tFn (sp_turned K) E0 (tCons (tVar 2) tNil)) [2]) tNil)))) "_backwards")) tNext) (tRet (tFld K (tVar 0) "_backwards")))
section
variable {K : PySem.W.Frag} (F : KF K) (R : KR K) {vs : List V} {H : Hp} {Q : VK} {E : XK}
local macro_rules | `(tactic| walk_at "w") => `(tactic| try simp only [turnE, lcT, Snoc, tRet, tRetN, tAndV, tOrV, tNotV, tCB, tCons, tVar, tNil, tC, tOp, tSeq, tAsg, gName, gSub, tIfS, tDrop, tFn, tTup, tLst, tNext, tB, tTest, tNot, tAnd, tOr, tIf, tChain, tUn, rU, tFld, tPart, tNoPart, L2.tSl, tBM, tPar, tPar3, tTruth, tDNewK,
  L2.start, List.map_cons, List.map_nil, List.length_cons, List.length_nil, List.replicate_succ, List.replicate_zero, List.append_nil, List.nil_append, List.cons_append, List.singleton_append, Nat.sub_self, Nat.zero_add, Nat.reduceAdd, Nat.reduceSub,
  List.getElem?_cons_zero, List.getElem?_cons_succ, List.set_cons_zero, List.set_cons_succ, Option.some.injEq, exists_eq_left, exists_eq_left', V.int.injEq, V.bl.injEq, V.str.injEq, V.ref.injEq,
  uAdd_int, uAdd_str, uSub_int, uMul_int, uMul_str, uDiv_int, uMod_int, uPow_int, uLt_int, uLe_int, uGt_int, uGe_int, uIs_non, uNis_non, uIs_bl, uNis_bl, sp1, sp2, sp3, sp4, uEq_int, uEq_str, uNe_int, uNe_str, uSl_str, uLen_str, decide_eq_true_eq])
local macro_rules | `(tactic| walk_at "1") => `(tactic| try simp only [turnE, lcT, Snoc, tRet, tRetN, tAndV, tOrV, tNotV, tCB, tCons, tVar, tNil, tC, tOp, tAsg, gName, gSub, tIfS, tDrop, tFn, tTup, tLst, tNext, tB, tTest, tNot, tAnd, tOr, tIf, tChain, tUn, rU, tFld, tPart, tNoPart, L2.tSl, tBM, tPar, tPar3, tTruth, tDNewK,
  L2.start, List.map_cons, List.map_nil, List.length_cons, List.length_nil, List.replicate_succ, List.replicate_zero, List.append_nil, List.nil_append, List.cons_append, List.singleton_append, Nat.sub_self, Nat.zero_add, Nat.reduceAdd, Nat.reduceSub,
  List.getElem?_cons_zero, List.getElem?_cons_succ, List.set_cons_zero, List.set_cons_succ, Option.some.injEq, exists_eq_left, exists_eq_left', V.int.injEq, V.bl.injEq, V.str.injEq, V.ref.injEq,
  uAdd_int, uAdd_str, uSub_int, uMul_int, uMul_str, uDiv_int, uMod_int, uPow_int, uLt_int, uLe_int, uGt_int, uGe_int, uIs_non, uNis_non, uIs_bl, uNis_bl, sp1, sp2, sp3, sp4, uEq_int, uEq_str, uNe_int, uNe_str, uSl_str, uLen_str, decide_eq_true_eq])
local macro_rules | `(tactic| walk_at "s") => `(tactic| ((try dsimp only [turnE]); with_reducible refine seq_ ?_))

/-- a list of turned sixes -/
theorem turned_all {l : Addr} {gs : List (Nat → Nat → Int)} {t : TE} {j : Nat} {σ : L2.St} {Q : VK} (hl : PrB K H l (gs.map six)) (few : gs.length ≤ 1000) (ht : ∀ P : VK, P (.ref l) H → t σ H P) (hj : j < σ.length)
    (q : ∀ D H', Same H H' → H D = none → PrB K H' D (gs.map fun g => six fun i j => g j i) → Q (.ref D) H') : tLc (iSeq K t) (gName j) tYes (tFn (sp_turned K) E0 (tCons (tVar j) tNil)) [j] σ H Q := by
  obtain ⟨bs, h1, h2, h3⟩ := hl
  refine tLc_inN (ht _ ⟨l, rfl, ⟨_, .inl (.inl h1)⟩, fun D hD => ?_⟩)
  rw [List.length_map] at h2
  refine lc_freshO (plain_L (K := K) (a := l) (xs := bs.map V.ref)) (fun k => .tup (iV (six fun i j => ((gs[k]?).getD fun _ _ => 0) j i))) hD (by rw [List.length_map, h2]; exact few) (fun H' s => .inl (.inl (s _ _ h1))) ?_ ?_
  · intro i x H2 Q2 hx s2 go
    rw [List.getElem?_map] at hx
    obtain ⟨b, hb, rfl⟩ := Option.map_eq_some_iff.mp hx
    have li : i < gs.length := by rw [← h2]; exact (List.getElem?_eq_some_iff.mp hb).1
    have hg : gs[i]? = some gs[i] := List.getElem?_eq_getElem li
    refine ⟨.ref b, ?_, b, gs[i], rfl, Same.sqT s2 (h3 i b (six gs[i]) hb (by rw [List.getElem?_map, hg]; rfl)), fun r H3 s3 nr gr => go r H3 nr s3 ?_⟩
    · rw [List.getElem?_set_self hj]
    · rw [hg]
      exact gr
  · intro H2 ls s2 hl2 gD at_ _ _ _
    refine q D H2 s2 hD ⟨ls, gD, by rw [hl2, List.length_map, List.length_map, h2], fun i b z z1 z2 => ?_⟩
    rw [List.getElem?_map] at z2
    obtain ⟨g, hg, rfl⟩ := Option.map_eq_some_iff.mp z2
    have := at_ i b z1
    rw [hg] at this
    exact .inl (.inl this)
include F R in
theorem read_Reckoning_backwards (h : sp_Reckoning_backwards K vs H Q E) : t_Reckoning_backwards K E { nx := fun _ H' => Q .non H', rt := Q } (start ["self", "prices", "six"] vs) H := by
  match vs, h with
  | [_], ⟨a, B, qs, lp, lt, rfl, ⟨dx, bk, ga, kb⟩, p1, p2, h60, h6, q⟩ =>
    unfold t_Reckoning_backwards
    walk_at "s"
    walk_at "1"
    refine ⟨a, _, dx, _, bk, rfl, ga, R.cl, R.back, rfl, ?_⟩
    rcases kb with rfl | ⟨b, rfl, rb⟩
    · rw [if_pos rfl]
      have e1 : (qs.map fnOf).map six = qs := by
        rw [List.map_map]
        exact (List.map_congr_left (g := id) fun w m => six_fn (h6 w m)).trans (List.map_id qs)
      have e2 : towersL qs = ((List.range (qs.length + 1)).map (levelQ qs)).map six := by
        unfold towersL
        rw [List.map_map]
        rfl
      walk_at "s"
      refine turned_all (l := lp) (gs := qs.map fnOf) (e1.symm ▸ p1) (by rw [List.length_map]; omega) (fun P z => ⟨.ref a, rfl, a, _, dx, _, .ref lp, rfl, ga, R.cl, R.prices, rfl, z⟩) (Nat.lt_succ_self 2) fun D1 H1 s1 n1 r1 => ?_
      have eD1 : ((qs.map fnOf).map fun g => six fun i j => g j i) = qs.map turnQ := by
        rw [List.map_map]
        rfl
      rw [eD1] at r1
      have ga1 := s1 _ _ ga
      simp only [gName, List.set_cons_zero, List.set_cons_succ, sFld, tMake]
      walk_at "1"
      refine ⟨a, _, dx, _, .int B, rfl, ga1, R.cl, R.bound, rfl, ?_⟩
      refine turned_all (l := lt) (gs := (List.range (qs.length + 1)).map (levelQ qs)) (e2 ▸ p2.same s1) (by rw [List.length_map, List.length_range]; omega) (fun P z => ⟨.ref a, rfl, a, _, dx, _, .ref lt, rfl, ga1, R.cl, R.towers, rfl, z⟩) (Nat.lt_succ_self 2) fun D2 H2 s2 n2 r2 => ?_
      have eD2 : (((List.range (qs.length + 1)).map (levelQ qs)).map fun g => six fun i j => g j i) = towersL (qs.map turnQ) := by
        unfold towersL
        rw [List.map_map, List.length_map]
        refine List.map_congr_left fun k mk => six_congr fun i j hi hj n => (levelQ_turn k ?_ i j hi hj n).symm
        have := List.mem_range.mp mk
        omega
      rw [eD2] at r2
      have r1 := r1.same s2
      have s12 := s1.trans s2
      refine fun y dy ny nd ne => ?_
      have s3 : Same H2 (upd (upd H2 dy (.own y)) y (.ins (He.ga K "Reckoning") dy [])) := fun b o e => by
        rw [upd_ne (ne_of_none e ny), upd_ne (ne_of_none e nd)]
        exact e
      have gy : upd (upd H2 dy (.own y)) y (.ins (He.ga K "Reckoning") dy []) y = some (.ins (He.ga K "Reckoning") dy []) := upd_same
      generalize upd (upd H2 dy (.own y)) y (.ins (He.ga K "Reckoning") dy []) = H3 at *
      refine ⟨y, dy, B, rfl, rfl, gy, fun H4 o4 g4 => ⟨rfl, ?_⟩⟩
      have s24 : Same H2 H4 := (Off.trans (Same.off s3) o4).same ny
      have s14 := s12.trans s24
      have ga4 := s14 _ _ ga
      have ya : y ≠ a := by rintro rfl; rw [s12 _ _ ga] at ny; cases ny
      refine ⟨a, _, dx, _, rfl, ga4, R.cl, R.back, by show (4 : Nat) < 1000; decide, ?_⟩
      have ep : putF "_backwards" (.ref y) (rkF B (.ref lp) (.ref lt) .non) = rkF B (.ref lp) (.ref lt) (.ref y) := rfl
      rw [ep]
      have o5 : Off a H4 (upd H4 a (.ins (He.ga K "Reckoning") dx (rkF B (.ref lp) (.ref lt) (.ref y)))) := off_upd
      have g5 : upd H4 a (.ins (He.ga K "Reckoning") dx (rkF B (.ref lp) (.ref lt) (.ref y))) a = some (.ins (He.ga K "Reckoning") dx (rkF B (.ref lp) (.ref lt) (.ref y))) := upd_same
      generalize upd H4 a (.ins (He.ga K "Reckoning") dx (rkF B (.ref lp) (.ref lt) (.ref y))) = H5 at *
      have back : RkN0 K H5 y B (qs.map turnQ) := ⟨D1, D2, ⟨dy, _, o5 _ _ ya g4⟩, (r1.same s24).off o5 ga4, (r2.same s24).off o5 ga4⟩
      refine ⟨a, _, dx, _, .ref y, rfl, g5, R.cl, R.back, rfl, ?_⟩
      exact q y H5 (Off.trans (Same.off s14) o5) ⟨dx, _, g5, .inr ⟨y, rfl, back⟩⟩ ((p1.same s14).off o5 ga4) ((p2.same s14).off o5 ga4) back
    · rw [if_neg (by simp)]
      refine ⟨a, _, dx, _, .ref b, rfl, ga, R.cl, R.back, rfl, ?_⟩
      exact q b H Off.refl ⟨dx, _, ga, .inr ⟨b, rfl, rb⟩⟩ p1 p2 rb
end
end U
namespace U
open PySem PySem.Spec PyProof.Rows L2

/-! ### a reckoning by its numbers, whatever it keeps -/
def RkM (K : PySem.W.Frag) (H : Hp) (a : Addr) (B : Int) (qs : List (List Int)) : Prop := ∃ lp lt : Addr, (∃ dx bk, H a = some (.ins (He.ga K "Reckoning") dx (rkF B (.ref lp) (.ref lt) bk)) ∧ Bk K H bk B qs) ∧ PrB K H lp qs ∧ PrB K H lt (towersL qs) ∧ qs.length ≤ 60 ∧ ∀ q ∈ qs, q.length = 6
/-- the levels of a start -/
def Lvls (K : PySem.W.Frag) (H : Hp) (l : Addr) (qs : List (List Int)) (ds : List Nat) : Prop := ∃ cs : List Addr, H l = some (.lst (cs.map V.ref)) ∧ cs.length = ds.length + 1 ∧ ∀ (k : Nat) (c : Addr), cs[k]? = some c → SqT K H c (iV (three (toQ qs ds.reverse k)))
def sp_Reckoning_from_towers (K : PySem.W.Frag) : Sp := sp2 fun x y H Q _ => ∃ a B qs ds, x = .ref a ∧ y = .str (wd ds) ∧ RkM K H a B qs ∧ D3 ds ∧ ds.length ≤ qs.length ∧ ∀ (l : Addr) (H' : Hp), Off a H H' → RkM K H' a B qs → Lvls K H' l (qs.map turnQ) ds → Q (.ref l) H'
def t_Reckoning_from_towers (K : PySem.W.Frag) (E : XK) : TS := (tRet (tMeth (He.ga K "Reckoning") "to_towers" (sp_Reckoning_to_towers K) [] E (tMeth (He.ga K "Reckoning") "backwards" (sp_Reckoning_backwards K) [] E (tVar 0) tNil) (tCons (tVar 1) tNil)))
section
variable {K : PySem.W.Frag} (F : KF K) (R : KR K) {vs : List V} {H : Hp} {Q : VK} {E : XK}
local macro_rules | `(tactic| walk_at "w") => `(tactic| try simp only [turnE, lcT, Snoc, tRet, tRetN, tAndV, tOrV, tNotV, tCB, tCons, tVar, tNil, tC, tOp, tSeq, tAsg, gName, gSub, tIfS, tDrop, tFn, tTup, tLst, tNext, tB, tTest, tNot, tAnd, tOr, tIf, tChain, tUn, rU, tFld, tPart, tNoPart, L2.tSl, tBM, tPar, tPar3, tTruth, tDNewK,
  L2.start, List.map_cons, List.map_nil, List.length_cons, List.length_nil, List.replicate_succ, List.replicate_zero, List.append_nil, List.nil_append, List.cons_append, List.singleton_append, Nat.sub_self, Nat.zero_add, Nat.reduceAdd, Nat.reduceSub,
  List.getElem?_cons_zero, List.getElem?_cons_succ, List.set_cons_zero, List.set_cons_succ, Option.some.injEq, exists_eq_left, exists_eq_left', V.int.injEq, V.bl.injEq, V.str.injEq, V.ref.injEq,
  uAdd_int, uAdd_str, uSub_int, uMul_int, uMul_str, uDiv_int, uMod_int, uPow_int, uLt_int, uLe_int, uGt_int, uGe_int, uIs_non, uNis_non, uIs_bl, uNis_bl, sp1, sp2, sp3, sp4, uEq_int, uEq_str, uNe_int, uNe_str, uSl_str, uLen_str, decide_eq_true_eq])
local macro_rules | `(tactic| walk_at "1") => `(tactic| try simp only [turnE, lcT, Snoc, tRet, tRetN, tAndV, tOrV, tNotV, tCB, tCons, tVar, tNil, tC, tOp, tAsg, gName, gSub, tIfS, tDrop, tFn, tTup, tLst, tNext, tB, tTest, tNot, tAnd, tOr, tIf, tChain, tUn, rU, tFld, tPart, tNoPart, L2.tSl, tBM, tPar, tPar3, tTruth, tDNewK,
  L2.start, List.map_cons, List.map_nil, List.length_cons, List.length_nil, List.replicate_succ, List.replicate_zero, List.append_nil, List.nil_append, List.cons_append, List.singleton_append, Nat.sub_self, Nat.zero_add, Nat.reduceAdd, Nat.reduceSub,
  List.getElem?_cons_zero, List.getElem?_cons_succ, List.set_cons_zero, List.set_cons_succ, Option.some.injEq, exists_eq_left, exists_eq_left', V.int.injEq, V.bl.injEq, V.str.injEq, V.ref.injEq,
  uAdd_int, uAdd_str, uSub_int, uMul_int, uMul_str, uDiv_int, uMod_int, uPow_int, uLt_int, uLe_int, uGt_int, uGe_int, uIs_non, uNis_non, uIs_bl, uNis_bl, sp1, sp2, sp3, sp4, uEq_int, uEq_str, uNe_int, uNe_str, uSl_str, uLen_str, decide_eq_true_eq])
local macro_rules | `(tactic| walk_at "s") => `(tactic| ((try dsimp only [turnE]); with_reducible refine seq_ ?_))

theorem RkM.same {H' : Hp} {a : Addr} {B : Int} {qs : List (List Int)} (e : Same H H') (h : RkM K H a B qs) : RkM K H' a B qs := by
  obtain ⟨lp, lt, ⟨dx, bk, ga, kb⟩, p1, p2, l1, l2⟩ := h
  exact ⟨lp, lt, ⟨dx, bk, e _ _ ga, kb.same e⟩, p1.same e, p2.same e, l1, l2⟩
theorem RkM.n {a : Addr} {B : Int} {qs : List (List Int)} (h : RkM K H a B qs) : RkN K H a B qs := by
  obtain ⟨lp, lt, ⟨dx, bk, ga, kb⟩, p1, p2, l1, l2⟩ := h
  exact ⟨lp, lt, ⟨dx, bk, ga⟩, p1, p2, l2, l1⟩
theorem turn_len {qs : List (List Int)} : ∀ q ∈ qs.map turnQ, q.length = 6 := fun q m => by
  obtain ⟨w, _, rfl⟩ := List.mem_map.mp m
  rfl
include F R in
theorem read_Reckoning_from_towers (h : sp_Reckoning_from_towers K vs H Q E) : t_Reckoning_from_towers K E { nx := fun _ H' => Q .non H', rt := Q } (start ["self", "goals"] vs) H := by
  match vs, h with
  | [_, _], ⟨a, B, qs, ds, rfl, rfl, ⟨lp, lt, ⟨dx, bk, ga, kb⟩, p1, p2, l1, l2⟩, d3, hl, q⟩ =>
    unfold t_Reckoning_from_towers
    walk_at "1"
    refine ⟨.ref a, rfl, a, dx, _, rfl, ga, rfl, a, B, qs, lp, lt, rfl, ⟨dx, bk, ga, kb⟩, p1, p2, l1, l2, fun b H1 o1 ka q1 q2 rb => ?_⟩
    obtain ⟨lp2, lt2, ⟨d2, bk2, gb⟩, r1, r2⟩ := id rb
    refine ⟨b, d2, _, rfl, gb, rfl, .str (wd ds), rfl, ?_⟩
    refine ⟨b, B, qs.map turnQ, ds, rfl, rfl, ⟨lp2, lt2, ⟨d2, bk2, gb⟩, r1, r2, turn_len, by rw [List.length_map]; exact l1⟩, d3, by rw [List.length_map]; exact hl, fun l cs H2 s2 k1 k2 k3 => ?_⟩
    have ka2 : RkM K H1 a B qs := ⟨lp, lt, ka, q1, q2, l1, l2⟩
    exact q l H2 (Off.trans o1 (Same.off s2)) (ka2.same s2) ⟨cs, k1, k2, k3⟩
end
end U
namespace U
open PySem PySem.Spec PyProof.Rows L2

/-! ### the largest crate that moves -/
def firstA (ds es : List Nat) : Option Nat := (List.range ds.length).find? fun k => decide (ds[k]? ≠ es[k]?)
def crV : Option Nat → V
  | none => .non
  | some k => .int (k : Nat)
def sp_first_apart (K : PySem.W.Frag) : Sp := sp2 fun x y H Q _ => ∃ ds es, x = .str (wd ds) ∧ y = .str (wd es) ∧ D3 ds ∧ D3 es ∧ ds.length = es.length ∧ ds.length ≤ 60 ∧ ∀ H', Same H H' → Q (crV (firstA ds es)) H'
def t_first_apart (K : PySem.W.Frag) (E : XK) : TS := (tSeq (tFor (iEnumU K (tCons (tVar 0) tNil)) (gTup K 2 (gCons (gName 2) (gCons (gName 3) gNil))) (tIfS (tAnd (tTest (tOp (uNe K) (tVar 3) (tOp (uIx K) (tVar 1) (tVar 2)))) (tNot (tB (tCB (rAny K) (tCons (tLc (iStr (tVar 3)) (gName 4) tYes (tOp (uIn K false) (tVar 4) (tOp (uIx K) (tVar 1) (tVar 2))) [4]) tNil))))) (tRet (tVar 2)) tNext)) (tRet (tC .non)))
theorem for_enumS {ta : TA} {g : TG} {tb : TS} {D : Ends} {σ : L2.St} {H : Hp} {K : PySem.W.Frag} {z : Str} (ht : ta σ H fun vs H1 => vs = [.str z] ∧ H1 = H) (mono : ∀ R R' : List V → Hp → Prop, (∀ v h, R v h → R' v h) → ta σ H R → ta σ H R') (Pv : Nat → L2.St → Hp → Prop) (h0 : Pv 0 σ H)
    (hs : ∀ i c τ H' T, z.cps[i]? = some c → Pv i τ H' → H' T = none → g (.ref T) τ (upd H' T (.tup [.int (i : Nat), .str ⟨#[c]⟩])) fun ρ H2 => tb (turnE D (Pv (i + 1))) ρ H2) (hd : ∀ τ H', Pv z.cps.size τ H' → D.nx τ H') : tFor (iEnumU K ta) g tb D σ H := by
  refine .inr (mono _ _ (fun v h e => ?_) ht)
  obtain ⟨rfl, rfl⟩ := e
  refine ⟨z, rfl, ?_⟩
  refine ⟨fun i m τ H' => m = z.cps.size - i ∧ (i ≤ z.cps.size ∧ Pv i τ H'), ⟨_, rfl, Nat.zero_le _, h0⟩, ?_⟩
  rintro i m τ H' ⟨rfl, hi, p⟩
  by_cases lt : i < z.cps.size
  · refine .inr ⟨lt, Pv (i + 1), fun σ' H2 p' => ⟨z.cps.size - (i + 1), by omega, rfl, lt, p'⟩, fun v H2 yd => ?_⟩
    obtain ⟨T, c, rfl, nT, hc, rfl⟩ := yd
    exact hs i c τ H' T hc p nT
  · have e : i = z.cps.size := by omega
    subst e
    exact .inl ⟨rfl, hd τ H' p⟩
theorem first_none {ds es : List Nat} (h : ∀ k, k < ds.length → ds[k]? = es[k]?) : firstA ds es = none := by
  unfold firstA
  refine List.find?_eq_none.mpr fun k mk => ?_
  have := List.mem_range.mp mk
  rw [h k this]
  simp
theorem first_some {ds es : List Nat} {i : Nat} (hi : i < ds.length) (n : ds[i]? ≠ es[i]?) (h : ∀ k, k < i → ds[k]? = es[k]?) : firstA ds es = some i := by
  unfold firstA
  refine List.find?_range_eq_some.mpr ⟨by simpa using n, List.mem_range.mpr hi, fun j hj => ?_⟩
  rw [h j hj]
  simp
theorem apart_ab : ∀ d e : Fin 3, d ≠ e → (!(Builtin.Str.occurrences ⟨#[97 + e.val]⟩ ⟨#[97 + d.val]⟩ 0 1 1).isEmpty) = false := by decide +kernel
theorem at_natN {xs : List Nat} {k : Nat} {v : Nat} (h : xs[k]? = some v) : atI xs (k : Int) = some v := by
  have lt := (List.getElem?_eq_some_iff.mp h).1
  unfold atI ixN
  rw [if_pos (Int.natCast_nonneg k), if_pos (Int.ofNat_lt.mpr lt)]
  exact h
section
variable {K : PySem.W.Frag} (F : KF K) (R : KR K) {vs : List V} {H : Hp} {Q : VK} {E : XK}
local macro_rules | `(tactic| walk_at "w") => `(tactic| try simp only [turnE, lcT, Snoc, tRet, tRetN, tAndV, tOrV, tNotV, tCB, tCons, tVar, tNil, tC, tOp, tSeq, tAsg, gName, gSub, tIfS, tDrop, tFn, tTup, tLst, tNext, tB, tTest, tNot, tAnd, tOr, tIf, tChain, tUn, rU, tFld, tPart, tNoPart, L2.tSl, tBM, tPar, tPar3, tTruth, tDNewK,
  L2.start, List.map_cons, List.map_nil, List.length_cons, List.length_nil, List.replicate_succ, List.replicate_zero, List.append_nil, List.nil_append, List.cons_append, List.singleton_append, Nat.sub_self, Nat.zero_add, Nat.reduceAdd, Nat.reduceSub,
  List.getElem?_cons_zero, List.getElem?_cons_succ, List.set_cons_zero, List.set_cons_succ, Option.some.injEq, exists_eq_left, exists_eq_left', V.int.injEq, V.bl.injEq, V.str.injEq, V.ref.injEq,
  uAdd_int, uAdd_str, uSub_int, uMul_int, uMul_str, uDiv_int, uMod_int, uPow_int, uLt_int, uLe_int, uGt_int, uGe_int, uIs_non, uNis_non, uIs_bl, uNis_bl, sp1, sp2, sp3, sp4, uEq_int, uEq_str, uNe_int, uNe_str, uSl_str, uLen_str, decide_eq_true_eq])
local macro_rules | `(tactic| walk_at "1") => `(tactic| try simp only [turnE, lcT, Snoc, tRet, tRetN, tAndV, tOrV, tNotV, tCB, tCons, tVar, tNil, tC, tOp, tAsg, gName, gSub, tIfS, tDrop, tFn, tTup, tLst, tNext, tB, tTest, tNot, tAnd, tOr, tIf, tChain, tUn, rU, tFld, tPart, tNoPart, L2.tSl, tBM, tPar, tPar3, tTruth, tDNewK,
  L2.start, List.map_cons, List.map_nil, List.length_cons, List.length_nil, List.replicate_succ, List.replicate_zero, List.append_nil, List.nil_append, List.cons_append, List.singleton_append, Nat.sub_self, Nat.zero_add, Nat.reduceAdd, Nat.reduceSub,
  List.getElem?_cons_zero, List.getElem?_cons_succ, List.set_cons_zero, List.set_cons_succ, Option.some.injEq, exists_eq_left, exists_eq_left', V.int.injEq, V.bl.injEq, V.str.injEq, V.ref.injEq,
  uAdd_int, uAdd_str, uSub_int, uMul_int, uMul_str, uDiv_int, uMod_int, uPow_int, uLt_int, uLe_int, uGt_int, uGe_int, uIs_non, uNis_non, uIs_bl, uNis_bl, sp1, sp2, sp3, sp4, uEq_int, uEq_str, uNe_int, uNe_str, uSl_str, uLen_str, decide_eq_true_eq])
local macro_rules | `(tactic| walk_at "s") => `(tactic| ((try dsimp only [turnE]); with_reducible refine seq_ ?_))

include F in
theorem read_first_apart (h : sp_first_apart K vs H Q E) : t_first_apart K E { nx := fun _ H' => Q .non H', rt := Q } (start ["starts", "goals", "crate", "places", "place"] vs) H := by
  match vs, h with
  | [_, _], ⟨ds, es, rfl, rfl, d3, e3, same, l60, q⟩ =>
    unfold t_first_apart
    have sz : (wd ds).cps.size = ds.length := wd_length ds
    walk_at "s"
    refine for_enumS (z := wd ds) ⟨.str (wd ds), rfl, rfl, rfl⟩ (fun R R' im h => by obtain ⟨v, e, h⟩ := h; exact ⟨v, e, im _ _ h⟩) (fun i τ H' => (∃ o2 o3 o4, τ = [some (.str (wd ds)), some (.str (wd es)), o2, o3, o4]) ∧ Same H H' ∧ ∀ k, k < i → ds[k]? = es[k]?)
      ⟨⟨_, _, _, rfl⟩, Same.refl _, fun k z => absurd z (Nat.not_lt_zero k)⟩ ?_ ?_
    · rintro i c τ H2 T hc ⟨⟨o2, o3, o4, rfl⟩, s2, al⟩ nT
      obtain ⟨d, hd, rfl⟩ := wd_cp hc
      have li := (List.getElem?_eq_some_iff.mp hd).1
      obtain ⟨e, he⟩ : ∃ e, es[i]? = some e := ⟨_, List.getElem?_eq_getElem (by omega)⟩
      refine pair_in upd_same ?_
      have s3 : Same H (upd H2 T (.tup [.int (i : Nat), .str ⟨#[97 + d]⟩])) := s2.trans (same_new nT)
      generalize upd H2 T (.tup [.int (i : Nat), .str ⟨#[97 + d]⟩]) = H3 at *
      simp only [List.set_cons_zero, List.set_cons_succ]
      walk_at "1"
      have ld := d3 d (List.mem_of_getElem? hd)
      have le := e3 e (List.mem_of_getElem? he)
      have at_e : ∀ {Q2 : VK} {H4 : Hp}, Q2 (.str ⟨#[97 + e]⟩) H4 → uIx K (.str (wd es)) (.int (i : Nat)) H4 Q2 := fun z => by
        refine uIx_str (c := 97 + e) (by rw [wd_length, sizeLine_eq]; omega) (at_natN ?_) z
        unfold wd
        rw [List.getElem?_map, he]
        rfl
      refine at_e ?_
      walk_at "1"
      by_cases de : d = e
      · subst de
        rw [if_neg (by simp), if_neg (by decide)]
        refine ⟨⟨_, _, _, rfl⟩, s3, fun k lk => ?_⟩
        by_cases ek : k = i
        · rw [ek, hd, he]
        · exact al k (by omega)
      · rw [if_pos (by simpa using de)]
        refine tLc_str (z := ⟨#[97 + d]⟩) (tVar_eq rfl) fun D hD => ?_
        refine lc_grow plain_S (fun acc _ => acc = (List.replicate acc.length false).map V.bl) hD (by show 1 ≤ sizeLine; decide) (fun _ _ => trivial) (fun _ _ => rfl) (fun _ _ _ _ _ _ z => z) ?_ ?_
        · intro k x acc H4 Q4 hx s4 hl r go
          have ex : x = .str ⟨#[97 + d]⟩ := by
            match k, hx with
            | 0, hx => cases hx; rfl
          subst ex
          walk_at "1"
          refine at_e ?_
          show Q4 (.bl _) H4
          have off : (!(Builtin.Str.occurrences ⟨#[97 + e]⟩ ⟨#[97 + d]⟩ 0 1 1).isEmpty) = false := apart_ab ⟨d, ld⟩ ⟨e, le⟩ fun z => de (congrArg Fin.val z)
          refine (show Q4 (.bl (!(Builtin.Str.occurrences ⟨#[97 + e]⟩ ⟨#[97 + d]⟩ 0 1 1).isEmpty)) H4 from ?_)
          rw [off]
          refine go _ H4 (Same.refl _) ?_
          rw [List.length_append, List.length_singleton, List.replicate_succ', List.map_append, ← r]
          rfl
        · intro acc H4 hl s4 gD r
          rw [r] at gD
          refine ⟨D, _, rfl, .inl (.inl gD), _, rfl, ?_⟩
          rw [show (List.replicate acc.length false).any id = false from by simp, if_pos (by decide)]
          have := q H4 (s3.trans s4)
          rw [first_some li (by rw [hd, he]; exact fun z => de (Option.some.inj z)) al] at this
          exact this
    · rintro τ H2 ⟨⟨o2, o3, o4, rfl⟩, s2, al⟩
      have := q H2 s2
      rw [first_none fun k lk => al k (by rw [sz]; exact lk)] at this
      exact this
end
end U
namespace U
open PySem PySem.Spec PyProof.Rows L2

/-! ### min of a tuple of numbers -/
def rMinT (K : PySem.W.Frag) : List V → Hp → VK → Prop := fun xs H Q => ∃ (a : Addr) (n : Int) (ns : List Int), xs = [.ref a] ∧ SqT K H a ((n :: ns).map V.int) ∧ Q (.int (ns.foldl min n)) H
theorem call_minT {X : Cx} (hc : X.calm = true) (hu : X.A.units + 64 < cLine) : CallR X (.builtin "min") (rMinT X.K) := by
  intro ps s σ H xs us Q I r h
  obtain ⟨a, n, ns, rfl, hs, q⟩ := h
  obtain ⟨its, rv, ht, _⟩ := I.tuple hs
  rw [Vals.ref1 r]
  have dep : ∀ l : List Int, PyData.depthAll (l.map PyData.int) = 0 := fun l => by
    induction l with
    | nil => simp [PyData.depthAll]
    | cons x t ih => simp [PyData.depthAll, PyData.depth, ih]
  have rd : ReadsAll s.heap its.toArray.toList (((n :: ns)).map PyData.int) [] := by simpa using reads_ints rv
  refine PySem.W.min_tuple_data (x := .int n) (xs := ns.map PyData.int) (I.ok.hd hc) (show s.heap.IsTuple a its.toArray from ht) rd ⟨fun x mx y my => ?_, fun x mx => ?_⟩ (by rw [show (PyData.int n :: ns.map PyData.int) = (n :: ns).map PyData.int from rfl, dep]; omega) (fun i v h' tk bs _ rr k => ?_)
  · obtain ⟨i, _, rfl⟩ := List.mem_map.mp (show x ∈ (n :: ns).map PyData.int from mx)
    obtain ⟨j, _, rfl⟩ := List.mem_map.mp (show y ∈ (n :: ns).map PyData.int from my)
    rfl
  · obtain ⟨i, _, rfl⟩ := List.mem_map.mp (show x ∈ (n :: ns).map PyData.int from mx)
    exact fun z => nomatch z
  · rw [PySem.W.minD_ints] at rr
    cases rr with
    | int _ u => exact ⟨.int _, H, I.kept (t' := tk) k, ⟨u, rfl⟩, q⟩
/-! ### != of two dicts that hold the same -/
end U
namespace U
open PySem PySem.Spec PyProof.Rows L2

/-! ### the least cost between two arrangements -/
def cheapQ (qs : List (List Int)) (ds es : List Nat) : Int := match firstA ds es with
  | none => 0
  | some k => min (bl1 (fnOf ((qs[ds.length - 1 - k]?).getD [])) (toQ qs (ds.drop (k + 1)).reverse (ds.length - 1 - k)) (toQ (qs.map turnQ) (es.drop (k + 1)).reverse (ds.length - 1 - k)) ((ds[k]?).getD 0) ((es[k]?).getD 0))
      (bl2 (fnOf ((qs[ds.length - 1 - k]?).getD [])) (levelQ qs (ds.length - 1 - k)) (toQ qs (ds.drop (k + 1)).reverse (ds.length - 1 - k)) (toQ (qs.map turnQ) (es.drop (k + 1)).reverse (ds.length - 1 - k)) ((ds[k]?).getD 0) ((es[k]?).getD 0))
def sp_Reckoning_cheapest (K : PySem.W.Frag) : Sp := sp3 fun x y z H Q _ => ∃ a B qs ds es, x = .ref a ∧ y = .str (wd ds) ∧ z = .str (wd es) ∧ RkM K H a B qs ∧ D3 ds ∧ D3 es ∧ ds.length = qs.length ∧ es.length = qs.length ∧ ∀ H', Off a H H' → RkM K H' a B qs → Q (.int (cheapQ qs ds es)) H'
def t_Reckoning_cheapest (K : PySem.W.Frag) (E : XK) : TS := (tSeq (tAsg (tFn (sp_first_apart K) E (tCons (tVar 1) (tCons (tVar 2) tNil))) (gName 3)) (tSeq (tIfS (tTest (tOp uIs (tVar 3) (tC .non))) (tRet (tC (.int 0))) tNext) (tSeq (tAsg (tOp uSub (tOp uSub (tCB (uLen K) (tCons (tVar 1) tNil)) (tC (.int 1))) (tVar 3)) (gName 4)) (tSeq (tAsg (tTup (tCons (tOp (uIx K) (tFld K (tVar 0) "prices") (tVar 4)) (tCons (tOp (uIx K) (tFld K (tVar 0) "towers") (tVar 4)) tNil))) (gTup K 2 (gCons (gName 5) (gCons (gName 6) gNil)))) (tSeq (tAsg (tOp (uIx K) (tMeth (He.ga K "Reckoning") "to_towers" (sp_Reckoning_to_towers K) [] E (tVar 0) (tCons (tSl (uSl K) (tVar 1) (tPart (tOp uAdd (tVar 3) (tC (.int 1)))) tNoPart) tNil)) (tUn (rU fun i => .int (-i)) (tC (.int 1)))) (gName 7)) (tSeq (tAsg (tOp (uIx K) (tMeth (He.ga K "Reckoning") "from_towers" (sp_Reckoning_from_towers K) [] E (tVar 0) (tCons (tSl (uSl K) (tVar 2) (tPart (tOp uAdd (tVar 3) (tC (.int 1)))) tNoPart) tNil)) (tUn (rU fun i => .int (-i)) (tC (.int 1)))) (gName 8)) (tRet (tCB (rMin K) (tCons (tLc2 (iStr (tOp (uIx K) (tVar 1) (tVar 3))) (gName 9) tYes (iStr (tOp (uIx K) (tVar 2) (tVar 3))) (gName 10) tYes (tCB (rMinT K) (tCons (tFn (sp_both_lines K) E0 (tCons (tOp uAdd (tVar 9) (tVar 10)) (tCons (tVar 5) (tCons (tVar 6) (tCons (tVar 7) (tCons (tVar 8) tNil)))))) tNil)) [9, 10] [10]) tNil)))))))))
section
variable {K : PySem.W.Frag} (F : KF K) (R : KR K) {vs : List V} {H : Hp} {Q : VK} {E : XK}
local macro_rules | `(tactic| walk_at "w") => `(tactic| try simp only [turnE, lcT, Snoc, tRet, tRetN, tAndV, tOrV, tNotV, tCB, tCons, tVar, tNil, tC, tOp, tSeq, tAsg, gName, gSub, tIfS, tDrop, tFn, tTup, tLst, tNext, tB, tTest, tNot, tAnd, tOr, tIf, tChain, tUn, rU, tFld, tPart, tNoPart, L2.tSl, tBM, tPar, tPar3, tTruth, tDNewK,
  L2.start, List.map_cons, List.map_nil, List.length_cons, List.length_nil, List.replicate_succ, List.replicate_zero, List.append_nil, List.nil_append, List.cons_append, List.singleton_append, Nat.sub_self, Nat.zero_add, Nat.reduceAdd, Nat.reduceSub,
  List.getElem?_cons_zero, List.getElem?_cons_succ, List.set_cons_zero, List.set_cons_succ, Option.some.injEq, exists_eq_left, exists_eq_left', V.int.injEq, V.bl.injEq, V.str.injEq, V.ref.injEq,
  uAdd_int, uAdd_str, uSub_int, uMul_int, uMul_str, uDiv_int, uMod_int, uPow_int, uLt_int, uLe_int, uGt_int, uGe_int, uIs_non, uNis_non, uIs_bl, uNis_bl, sp1, sp2, sp3, sp4, uEq_int, uEq_str, uNe_int, uNe_str, uSl_str, uLen_str, decide_eq_true_eq])
local macro_rules | `(tactic| walk_at "1") => `(tactic| try simp only [turnE, lcT, Snoc, tRet, tRetN, tAndV, tOrV, tNotV, tCB, tCons, tVar, tNil, tC, tOp, tAsg, gName, gSub, tIfS, tDrop, tFn, tTup, tLst, tNext, tB, tTest, tNot, tAnd, tOr, tIf, tChain, tUn, rU, tFld, tPart, tNoPart, L2.tSl, tBM, tPar, tPar3, tTruth, tDNewK,
  L2.start, List.map_cons, List.map_nil, List.length_cons, List.length_nil, List.replicate_succ, List.replicate_zero, List.append_nil, List.nil_append, List.cons_append, List.singleton_append, Nat.sub_self, Nat.zero_add, Nat.reduceAdd, Nat.reduceSub,
  List.getElem?_cons_zero, List.getElem?_cons_succ, List.set_cons_zero, List.set_cons_succ, Option.some.injEq, exists_eq_left, exists_eq_left', V.int.injEq, V.bl.injEq, V.str.injEq, V.ref.injEq,
  uAdd_int, uAdd_str, uSub_int, uMul_int, uMul_str, uDiv_int, uMod_int, uPow_int, uLt_int, uLe_int, uGt_int, uGe_int, uIs_non, uNis_non, uIs_bl, uNis_bl, sp1, sp2, sp3, sp4, uEq_int, uEq_str, uNe_int, uNe_str, uSl_str, uLen_str, decide_eq_true_eq])
local macro_rules | `(tactic| walk_at "s") => `(tactic| ((try dsimp only [turnE]); with_reducible refine seq_ ?_))

theorem firstA_lt {ds es : List Nat} {k : Nat} (h : firstA ds es = some k) : k < ds.length ∧ ds[k]? ≠ es[k]? ∧ ∀ j, j < k → ds[j]? = es[j]? := by
  unfold firstA at h
  obtain ⟨h1, h2, h3⟩ := List.find?_range_eq_some.mp h
  refine ⟨List.mem_range.mp h2, of_decide_eq_true h1, fun j hj => ?_⟩
  have := h3 j hj
  simpa using this
theorem str_one {ds : List Nat} {k d : Nat} (h : ds.length ≤ 60) (hk : ds[k]? = some d) (q : Q (.str (wd [d])) H) : uIx K (.str (wd ds)) (.int (k : Nat)) H Q := by
  have e : ds[k]? = some d := hk
  refine uIx_str (c := 97 + d) (Nat.le_trans (by rw [wd_length]; exact h) (by decide)) ?_ q
  have lt := (List.getElem?_eq_some_iff.mp hk).1
  refine at_natN' ?_
  show (wd ds).cps.toList[k]? = _
  simp [wd, hk]
where
  at_natN' {xs : List Nat} {k : Nat} {v : Nat} (h : xs[k]? = some v) : atI xs (k : Int) = some v := at_natN h
/-- one sign, one turn -/
theorem laps_one {i : Nat} {H0 : Hp} {fin : Hp → Prop} {B : V → Hp → (Hp → Prop) → Prop} (h : ∀ N : Hp → Prop, (∀ H, fin H → N H) → B (.str (pl i)) H0 N) : Laps (Its (wd [i])) H0 fin B := by
  have e : strL (wd [i]) = [V.str (pl i)] := by rw [strL_wd]; rfl
  refine it_plain (plain_S (z := wd [i])) (fun k H => (k = 0 ∧ H = H0) ∨ (k = 1 ∧ fin H)) (.inl ⟨rfl, rfl⟩) (fun _ _ _ => trivial) ?_ ?_
  · rintro k x H hx (⟨rfl, rfl⟩ | ⟨rfl, _⟩)
    · rw [e] at hx
      cases hx
      exact h _ fun H f => .inr ⟨rfl, f⟩
    · rw [e] at hx
      cases hx
  · rintro H (⟨z, _⟩ | ⟨_, f⟩)
    · rw [e] at z
      cases z
    · exact f
include F R in
theorem read_Reckoning_cheapest (h : sp_Reckoning_cheapest K vs H Q E) : t_Reckoning_cheapest K E { nx := fun _ H' => Q .non H', rt := Q } (start ["self", "starts", "goals", "crate", "rest", "prices", "towers", "to_towers", "from_towers", "here", "there"] vs) H := by
  match vs, h with
  | [_, _, _], ⟨a, B, qs, ds, es, rfl, rfl, rfl, hk, d3, e3, ld, le, q⟩ =>
    obtain ⟨lp, lt, ⟨dx, bk, ga, kb⟩, ⟨bs, b1, b2, b3⟩, ⟨ts, c1, c2, c3⟩, h60, h6⟩ := id hk
    unfold t_Reckoning_cheapest
    walk_at "s"
    walk_at "1"
    refine ⟨ds, es, rfl, rfl, d3, e3, by omega, by omega, fun H1 s1 => ?_⟩
    unfold cheapQ at q
    cases hf : firstA ds es with
    | none =>
      rw [hf] at q
      walk_at "1"
      show tSeq _ _ _ _ _
      walk_at "s"
      walk_at "1"
      exact q H1 (Same.off s1) (hk.same s1)
    | some k =>
      rw [hf] at q
      rw [show crV (some k) = V.int ((k : Nat) : Int) from rfl]
      obtain ⟨lk, ndk, _⟩ := firstA_lt hf
      have hd : ds[k]? = some ds[k] := List.getElem?_eq_getElem lk
      have he : es[k]? = some (es[k]'(by omega)) := List.getElem?_eq_getElem (by omega)
      have dlt : ds[k] < 3 := d3 _ (List.getElem_mem lk)
      have elt : es[k]'(by omega) < 3 := e3 _ (List.getElem_mem _)
      rw [hd, he] at ndk
      simp only [hd, he, Option.getD_some] at q
      generalize ds[k] = i at *
      generalize es[k]'(by omega) = j at *
      have nij : i ≠ j := fun z => ndk (by rw [z])
      obtain ⟨r, hr⟩ : ∃ r, r = ds.length - 1 - k := ⟨_, rfl⟩
      rw [← hr] at q
      have lr : r < qs.length := by omega
      have hq : qs[r]? = some qs[r] := List.getElem?_eq_getElem lr
      rw [hq, Option.getD_some] at q
      have q6 : qs[r].length = 6 := h6 _ (List.getElem_mem lr)
      have hb : bs[r]? = some (bs[r]'(by omega)) := List.getElem?_eq_getElem _
      have lts : ts.length = qs.length + 1 := by
        rw [c2]
        unfold towersL
        (rw [List.length_map, List.length_range])
      have ht : ts[r]? = some (ts[r]'(by omega)) := List.getElem?_eq_getElem _
      have sb := b3 r _ _ hb hq
      have st := c3 r _ (six (levelQ qs r)) ht (by
        unfold towersL
        rw [List.getElem?_map, List.getElem?_range (by omega)]
        rfl)
      generalize bs[r]'(by omega) = b at *
      generalize ts[r]'(by omega) = t at *
      generalize qs[r] = w at *
      show tSeq _ _ _ _ _
      walk_at "s"
      walk_at "1"
      rw [if_neg (fun z => by cases z)]
      show tSeq _ _ _ _ _
      walk_at "s"
      walk_at "1"
      refine ⟨by rw [wd_length, sizeLine_eq]; omega, ?_⟩
      walk_at "1"
      rw [wd_length, show (ds.length : Int) - 1 - (k : Int) = (r : Nat) by omega]
      walk_at "s"
      simp only [tAsg, tTup, tCons, tNil]
      walk_at "1"
      refine ⟨a, _, dx, _, .ref lp, rfl, s1 _ _ ga, R.cl, R.prices, rfl, _, _, .inl (.inl (.inl (s1 _ _ b1))), at_nat (by rw [List.getElem?_map, hb]; rfl), ?_⟩
      refine ⟨a, _, dx, _, .ref lt, rfl, s1 _ _ ga, R.cl, R.towers, rfl, _, _, .inl (.inl (.inl (s1 _ _ c1))), at_nat (by rw [List.getElem?_map, ht]; rfl), ?_⟩
      refine ⟨by decide, fun T nT => ?_⟩
      have sT : Same H1 (upd H1 T (.tup [.ref b, .ref t])) := same_new nT
      have gT : upd H1 T (.tup [.ref b, .ref t]) T = some (.tup [.ref b, .ref t]) := upd_same
      have s2 := s1.trans sT
      generalize upd H1 T (.tup [.ref b, .ref t]) = H2 at *
      refine ⟨T, _, rfl, .inl (.inl gT), rfl, un1 (un1 (un0 ?_))⟩
      simp only [List.set_cons_zero, List.set_cons_succ]
      walk_at "s"
      walk_at "1"
      simp only [tMeth]
      walk_at "1"
      refine ⟨a, dx, _, rfl, s2 _ _ ga, rfl, ?_⟩
      walk_at "1"
      rw [show ((k : Nat) : Int) + 1 = ((k + 1 : Nat) : Int) by omega]
      refine ⟨by rw [wd_length, sizeLine_eq]; omega, ?_⟩
      rw [cut_from (ds := ds) (k := k + 1) (by omega)]
      refine ⟨a, B, qs, ds.drop (k + 1), rfl, rfl, (hk.same s2).n, fun x m => d3 x (List.mem_of_mem_drop m), by rw [List.length_drop]; omega, fun l cs H3 s3 gl lc at3 => ?_⟩
      have dl : (ds.drop (k + 1)).length = r := by rw [List.length_drop]; omega
      rw [dl] at lc
      have hcs : cs[r]? = some (cs[r]'(by omega)) := List.getElem?_eq_getElem _
      have u3 := at3 r _ hcs
      generalize cs[r]'(by omega) = c at *
      refine ⟨_, _, .inl (.inl (.inl gl)), at_end (n := r) (by rw [List.length_map, lc]) (by rw [List.getElem?_map, hcs]; rfl), ?_⟩
      have s23 := s2.trans s3
      walk_at "s"
      walk_at "1"
      simp only [tMeth]
      walk_at "1"
      refine ⟨a, dx, _, rfl, s23 _ _ ga, rfl, ?_⟩
      walk_at "1"
      rw [show ((k : Nat) : Int) + 1 = ((k + 1 : Nat) : Int) by omega]
      refine ⟨by rw [wd_length, sizeLine_eq]; omega, ?_⟩
      rw [cut_from (ds := es) (k := k + 1) (by omega)]
      have ga3 := s23 _ _ ga
      refine ⟨a, B, qs, es.drop (k + 1), rfl, rfl, hk.same s23, fun x m => e3 x (List.mem_of_mem_drop m), by rw [List.length_drop]; omega, fun l' H4 o4 k4 lv => ?_⟩
      obtain ⟨cs', gl', lc', at4⟩ := lv
      have el : (es.drop (k + 1)).length = r := by rw [List.length_drop]; omega
      rw [el] at lc'
      have hcs' : cs'[r]? = some (cs'[r]'(by omega)) := List.getElem?_eq_getElem _
      have v3 := at4 r _ hcs'
      generalize cs'[r]'(by omega) = c' at *
      refine ⟨_, _, .inl (.inl (.inl gl')), at_end (n := r) (by rw [List.length_map, lc']) (by rw [List.getElem?_map, hcs']; rfl), ?_⟩
      have sb4 := o4.sqT_ins ga3 (Same.sqT s23 sb)
      have st4 := o4.sqT_ins ga3 (Same.sqT s23 st)
      have u4 := o4.sqT_ins ga3 u3
      have oH : Off a H H4 := Off.trans (Same.off s23) o4
      walk_at "1"
      refine tLc2_of ?_
      refine (show ∃ v, _ ∧ _ from ⟨_, rfl, _, rfl, str_one (by omega) hd ?_⟩)
      refine ⟨wd [i], rfl, fun D nD => laps_one fun N hN => ?_⟩
      have sD : Same H4 (upd H4 D (.lst [])) := same_new nD
      have gD : upd H4 D (.lst []) D = some (.lst []) := upd_same
      generalize upd H4 D (.lst []) = H5 at *
      unfold lc2T
      refine ⟨rfl, ?_⟩
      show tYes _ _ _
      unfold tYes
      dsimp only
      rw [if_pos rfl]
      refine (show ∃ v, _ ∧ _ from ⟨_, rfl, _, rfl, str_one (by omega) he ?_⟩)
      refine ⟨wd [j], rfl, laps_one fun N1 hN1 => ?_⟩
      unfold lc3T
      refine ⟨rfl, ?_⟩
      dsimp only
      rw [if_pos rfl]
      simp only [wipe, gName, List.set_cons_zero, List.set_cons_succ]
      walk_at "1"
      refine ⟨by show 1 + 1 ≤ sizeLine; decide, i, j, b, t, c, c', fnOf w, levelQ qs r, toQ qs (ds.drop (k + 1)).reverse r, toQ (qs.map turnQ) (es.drop (k + 1)).reverse r, rfl, dlt, elt, nij, rfl, rfl, rfl, rfl, by rw [six_fn q6]; exact Same.sqT sD sb4, Same.sqT sD st4, Same.sqT sD u4, Same.sqT sD v3, fun p H6 s6 np gp => ?_⟩
      refine ⟨p, _, [_], rfl, .inl (.inl gp), ?_⟩
      refine ⟨_, s6 _ _ gD, by decide, hN1 _ (hN _ ?_)⟩
      have s46 : Same H4 (upd H6 D (.lst ([] ++ [V.int (List.foldl min (bl1 (fnOf w) (toQ qs (ds.drop (k + 1)).reverse r) (toQ (qs.map turnQ) (es.drop (k + 1)).reverse r) i j) [bl2 (fnOf w) (levelQ qs r) (toQ qs (ds.drop (k + 1)).reverse r) (toQ (qs.map turnQ) (es.drop (k + 1)).reverse r) i j])]))) := (Off.trans (Same.off (sD.trans s6)) off_upd).same nD
      refine ⟨D, [_], rfl, .inl (.inl (by rw [upd_same]; rfl)), Nat.one_pos, fun m hm _ => ?_⟩
      rw [List.mem_singleton.mp hm]
      exact q _ (oH.trans (Same.off s46)) (k4.same s46)
end
end U
namespace U
open PySem PySem.Spec PyProof.Rows L2

/-- refused: no yard, or no arrangement -/
def RefA (K : PySem.W.Frag) (H : Hp) (y x : V) (E : XK) : Prop := YardOr K H y E fun rows => NoArr K H rows.length x E
def RefB (K : PySem.W.Frag) (H : Hp) (y x z : V) (E : XK) : Prop := YardOr K H y E fun rows => NoArr K H rows.length x E ∨ ∃ ds, Arr rows.length x ds ∧ NoArr K H rows.length z E
def sp_check_both (K : PySem.W.Frag) : Sp := sp3 fun y x z H Q E => YardOr K H y E fun rows => NoArr K H rows.length x E ∨ ∃ ds, Arr rows.length x ds ∧ (NoArr K H rows.length z E ∨ ∃ es, Arr rows.length z es ∧ ∀ H', Same H H' → Q .non H')
def t_check_both (K : PySem.W.Frag) (E : XK) : TS := (tSeq (tDrop (tFn (sp_check_arrangement K) E (tCons (tVar 0) (tCons (tVar 1) tNil)))) (tDrop (tFn (sp_check_arrangement K) E (tCons (tVar 0) (tCons (tVar 2) tNil)))))
section
variable {K : PySem.W.Frag} (F : KF K) (R : KR K) {vs : List V} {H : Hp} {Q : VK} {E : XK}
local macro_rules | `(tactic| walk_at "w") => `(tactic| try simp only [turnE, lcT, Snoc, tRet, tRetN, tAndV, tOrV, tNotV, tCB, tCons, tVar, tNil, tC, tOp, tSeq, tAsg, gName, gSub, tIfS, tDrop, tFn, tTup, tLst, tNext, tB, tTest, tNot, tAnd, tOr, tIf, tChain, tUn, rU, tFld, tPart, tNoPart, L2.tSl, tBM, tPar, tPar3, tTruth, tDNewK,
  L2.start, List.map_cons, List.map_nil, List.length_cons, List.length_nil, List.replicate_succ, List.replicate_zero, List.append_nil, List.nil_append, List.cons_append, List.singleton_append, Nat.sub_self, Nat.zero_add, Nat.reduceAdd, Nat.reduceSub,
  List.getElem?_cons_zero, List.getElem?_cons_succ, List.set_cons_zero, List.set_cons_succ, Option.some.injEq, exists_eq_left, exists_eq_left', V.int.injEq, V.bl.injEq, V.str.injEq, V.ref.injEq,
  uAdd_int, uAdd_str, uSub_int, uMul_int, uMul_str, uDiv_int, uMod_int, uPow_int, uLt_int, uLe_int, uGt_int, uGe_int, uIs_non, uNis_non, uIs_bl, uNis_bl, sp1, sp2, sp3, sp4, uEq_int, uEq_str, uNe_int, uNe_str, uSl_str, uLen_str, decide_eq_true_eq])
local macro_rules | `(tactic| walk_at "1") => `(tactic| try simp only [turnE, lcT, Snoc, tRet, tRetN, tAndV, tOrV, tNotV, tCB, tCons, tVar, tNil, tC, tOp, tAsg, gName, gSub, tIfS, tDrop, tFn, tTup, tLst, tNext, tB, tTest, tNot, tAnd, tOr, tIf, tChain, tUn, rU, tFld, tPart, tNoPart, L2.tSl, tBM, tPar, tPar3, tTruth, tDNewK,
  L2.start, List.map_cons, List.map_nil, List.length_cons, List.length_nil, List.replicate_succ, List.replicate_zero, List.append_nil, List.nil_append, List.cons_append, List.singleton_append, Nat.sub_self, Nat.zero_add, Nat.reduceAdd, Nat.reduceSub,
  List.getElem?_cons_zero, List.getElem?_cons_succ, List.set_cons_zero, List.set_cons_succ, Option.some.injEq, exists_eq_left, exists_eq_left', V.int.injEq, V.bl.injEq, V.str.injEq, V.ref.injEq,
  uAdd_int, uAdd_str, uSub_int, uMul_int, uMul_str, uDiv_int, uMod_int, uPow_int, uLt_int, uLe_int, uGt_int, uGe_int, uIs_non, uNis_non, uIs_bl, uNis_bl, sp1, sp2, sp3, sp4, uEq_int, uEq_str, uNe_int, uNe_str, uSl_str, uLen_str, decide_eq_true_eq])
local macro_rules | `(tactic| walk_at "s") => `(tactic| ((try dsimp only [turnE]); with_reducible refine seq_ ?_))

theorem NoArr.same {H H' : Hp} {n : Nat} {x : V} (e : Same H H') (h : NoArr K H n x E) : NoArr K H' n x E := by
  obtain ⟨b, h1, h2, h3, h4⟩ := h
  exact ⟨b, h1.same e, h2, h3, Rz.same e h4⟩
theorem RefA.chk {y x : V} (h : RefA K H y x E) : sp_check_arrangement K [y, x] H Q E :=
  chk_arr (k := fun _ _ => False) (YardOr.to h id fun _ _ _ _ g => .inr g) fun _ _ _ _ _ _ z => z.elim
theorem RefB.chk {y x z : V} (h : RefB K H y x z E) : sp_check_both K [y, x, z] H Q E :=
  YardOr.to h id fun _ _ _ _ g => g.elim .inl fun ⟨ds, a, b⟩ => .inr ⟨ds, a, .inl b⟩
include F in
theorem read_check_both (h : sp_check_both K vs H Q E) : t_check_both K E { nx := fun _ H' => Q .non H', rt := Q } (start ["yard", "start", "goal"] vs) H := by
  match vs, h with
  | [y, x, z], h =>
    unfold t_check_both
    walk_at "s"
    walk_at "1"
    refine chk_arr3 (k := fun rows ds => NoArr K H rows.length z E ∨ ∃ es, Arr rows.length z es ∧ ∀ H', Same H H' → Q .non H') h fun p rows ds ey hy a k H1 s1 => ?_
    subst ey
    walk_at "1"
    refine chk_arr3 (k := fun rows es => ∀ H', Same H H' → Q .non H') (yardOr_of F (hy.same s1) ?_) fun _ _ _ _ _ _ q H2 s2 => q H2 (s1.trans s2)
    rcases k with k | ⟨es, a2, q⟩
    · exact .inl (k.same s1)
    · exact .inr ⟨es, a2, q⟩
end
end U
namespace U
open PySem PySem.Spec PyProof.Rows L2

/-! ### list(d.values()), list(d) -/
/-- values that stand for others, one by one -/
theorem kv_at {tab : List (Key × V)} {raw : List (Key × Value)} (rel : KV tab raw) : Vals (tab.map (·.2)) (raw.map (·.2)) := (kv_vals' rel)
where
  kv_vals' {tab : List (Key × V)} {raw : List (Key × Value)} (h : KV tab raw) : Vals (tab.map (·.2)) (raw.map (·.2)) := by
    induction h with
    | nil => exact .nil
    | cons r _ ih => exact .cons r.2 ih
def tListVals (td : TE) : TE := fun σ H Q => td σ H fun x H1 => ∃ (d : Addr) (tab : List (Key × V)), x = V.ref d ∧ H1 d = some (.dK tab) ∧ tab.length ≤ 100000 ∧ ∀ l, H1 l = none → Q (.ref l) (upd H1 l (.lst (tab.map (·.2))))
theorem pe_listVals {X : Cx} {o : Expr} {p pos apos mpos : Pos} {td : TE} (calm : X.calm = true) (glob : Gl X "list") (free : X.mg "list" = none) (hd : PE X o td)
    (base : attributeBase o "values" X.env (eval o X.env) = eval o X.env := by rfl) (line : (apos.endLine == mpos.line) = true := by rfl)
    (alone : starEach [.Call (.Attribute o "values" apos) [] [] mpos] X.env = (false, eval (.Call (.Attribute o "values" apos) [] [] mpos) X.env) :: starEach [] X.env := by rfl) :
    PE X (.Call (.Name "list" p) [.Call (.Attribute o "values" apos) [] [] mpos] [] pos) (tListVals td) := by
  refine .mk ?_
  intro ps s σ H R I h
  refine Call_ (ld_blt I glob free boot_list (callWith_type1 (args_cons ?_ alone) alone rfl))
  refine wpAny_Call_method0_late base line (thn (hd.run ps s σ H _ I h) ?_)
  rintro v s1 ⟨x, H1, I1, r1, d, tab, rfl, at_, few, q⟩
  cases r1
  have ⟨_, notSys, raw, rel, of⟩ := dk_of I1.hok at_
  have ⟨ep, dict⟩ := of.dictAt
  have ⟨ob, _, got, kind, _⟩ := id dict
  refine ⟨_, _, F.plainAttrs_dict, F.slot_dict_values, F.type_dict_values, ⟨ob, got, kind.1⟩, ?_, ?_⟩
  · intro b e
    injection e with e
    exact ⟨ob, e ▸ got, kind.2.1⟩
  refine Calls.callWith_builtin rfl (PySem.evalArgs_none ?_)
  refine call_meetsIn F.slot_dict_values ⟨ob, got, kind.1⟩ F.entry_dict_values (F.args_dict_values_1 _) (meets_dict_values (mixKind X.prog X.w) d notSys) ⟨⟨raw, of⟩, args_nil ?_⟩
  have old : ∀ b u, s1.heap.get? b = some u → (s1.heap.push (Obj.mk (.type "dict_values") none (.fields #[.ref d]) #[])).get? b = some u := fun _ _ => Heap.get?_push_of_some _
  have view : (s1.heap.push (Obj.mk (.type "dict_values") none (.fields #[.ref d]) #[])).get? s1.heap.objs.size = some (Obj.mk (.type "dict_values") none (.fields #[.ref d]) #[]) := Heap.get?_push_size _ rfl
  have I2 := I1.kept (t' := s1.toks) old
  have dict2 := dict.keep old
  have lr : raw.length = tab.length := (KV.length rel).symm
  have hs := sizeLine_eq
  refine PySem.W.kdl_call (PySem.W.kdl_values (knd := mixKind X.prog X.w) (kvs := raw) (ep := ep) (d := d) (r := s1.heap.objs.size)) (I2.ok.hd calm) ⟨⟨_, view, rfl, rfl⟩, dict2⟩ (by omega) fun h' tk acc c kp e it => ?_
  have I3 : Inv X ps σ H1 { s1 with heap := h', toks := tk } := by exact I2.kept kp
  have vs : acc.toList = raw.map (·.2) := by
    (refine List.ext_getElem? fun j => ?_)
    rw [List.getElem?_map]
    cases ej : acc.toList[j]? with
    | none =>
      have := List.getElem?_eq_none_iff.mp ej
      rw [Array.length_toList, it.1] at this
      rw [List.getElem?_eq_none this]
      rfl
    | some v =>
      obtain ⟨k, hk⟩ := it.2 j v (by rw [← Array.getElem?_toList]; exact ej)
      rw [hk]
      rfl
  refine ⟨.ref _, _, I2.laid (t' := tk) kp (Nat.le_refl _) (show ObjOk X.prog X.w _ h' _ (.lst (tab.map (·.2))) from ⟨?_, acc.toList, c, by rw [vs]; exact kv_at rel, e⟩), rfl, q _ (I1.hok.fresh ?_)⟩
  · rw [List.length_map]
    omega
  · rw [Heap.size_push]
    exact Nat.le_succ _
end U
namespace U
open PySem PySem.Spec PyProof.Rows L2

/-! ### zip over texts, lists and tuples in any mix -/
inductive Src where
  | txt (x : Str) | lst (a : Addr) | tup (a : Addr)
namespace Src
def v : Src → V
  | .txt x => .str x
  | .lst a => .ref a
  | .tup a => .ref a
def has (K : PySem.W.Frag) (H : Hp) : Src → List V → Prop
  | .txt x, xs => xs = strL x
  | .lst a, xs => SqL K H a xs
  | .tup a, xs => SqT K H a xs
def fp (it : Addr) : Src → List Addr
  | .txt _ => [it]
  | .lst a => [it, a]
  | .tup a => [it, a]
/-- the iterator's own cell -/
def st (it : Addr) (t : Tok) : Src → Nat → Heap → Prop
  | .txt x, i, h => h.IsStrIter it (strIterType x) x t i
  | .lst a, i, h => h.IsListIter it a i
  | .tup a, i, h => h.IsTupleIter it a i
def off (b : Addr) : Src → Prop
  | .txt _ => True
  | .lst a => a ≠ b
  | .tup a => a ≠ b
def ob (t : Tok) : Src → Obj
  | .txt x => { cls := .type (strIterType x), data := .fields #[.str x t, .int 0 0] }
  | .lst a => { cls := .type "list_iterator", data := .fields #[.ref a, .int 0 0] }
  | .tup a => { cls := .type "tuple_iterator", data := .fields #[.ref a, .int 0 0] }
def val (t : Tok) : Src → Value
  | .txt x => .str x t
  | .lst a => .ref a
  | .tup a => .ref a
theorem fp_off {s : Src} {it b : Addr} (h : s.off b) (n : b ≠ it) : b ∉ s.fp it := by
  cases s with
  | txt x => exact not_in1 n
  | lst a => exact not_in2 n (Ne.symm h)
  | tup a => exact not_in2 n (Ne.symm h)
theorem fp_mem {s : Src} {it : Addr} : it ∈ s.fp it := by cases s <;> exact List.mem_cons_self
theorem st_obj {s : Src} {it : Addr} {t : Tok} {i : Nat} {h : Heap} (g : s.st it t i h) : ∃ o, h.get? it = some o ∧ ∀ v, o.data ≠ .cell v := by
  cases s <;>
    (obtain ⟨o, e, _, d⟩ := g
     exact ⟨o, e, fun v q => by rw [d] at q; cases q⟩)
theorem st_at {s : Src} {it : Addr} {t : Tok} {i : Nat} {h h' : Heap} (g : s.st it t i h) (k : ∀ o, h.get? it = some o → h'.get? it = some o) : s.st it t i h' := by
  cases s <;>
    (obtain ⟨o, e, r⟩ := g
     exact ⟨o, k o e, r⟩)
theorem st_new {s : Src} {it : Addr} {t : Tok} {h : Heap} (g : h.get? it = some (s.ob t)) : s.st it t 0 h := by cases s <;> exact ⟨_, g, rfl, rfl⟩
theorem rel {s : Src} {u : Value} (r : RelV s.v u) : ∃ t, u = s.val t := by
  cases s with
  | txt x => exact r
  | lst a => exact ⟨0, r⟩
  | tup a => exact ⟨0, r⟩
end Src
section
variable {X : Cx} {pins : List (Addr × Obj)} {σ : L2.St} {H : Hp} {s : Shared} -- both
theorem draws_mono {prog : Program} {w : World} {A : Around} {it : Addr} {fp : List Addr} {n : Nat} {P P' : Nat → Value → Prop} {St : Nat → Heap → Prop} (D : Draws prog w A it fp n P St) (h : ∀ i v, P i v → P' i v) : Draws prog w A it fp n P' St where
  live := D.live
  frame := D.frame
  item := fun i s Q E hi st hQ => D.item i s Q E hi st fun x h' tk p => hQ x h' tk (h i x p)
  done := D.done
theorem vals_at {xs : List V} {us : List Value} {j : Nat} {v : Value} (r : Vals xs us) (e : us[j]? = some v) : ∃ x, xs[j]? = some x ∧ RelV x v := by
  have lt : j < xs.length := by
    rw [r.length]
    (exact (List.getElem?_eq_some_iff.mp e).1)
  obtain ⟨u, hu, ru⟩ := r.get (List.getElem?_eq_getElem lt)
  rw [e] at hu
  cases hu
  exact ⟨_, List.getElem?_eq_getElem lt, ru⟩
/-- what such a source draws -/
theorem src_draws {src : Src} {it : Addr} {t : Tok} {xs : List V} (I : Inv X pins σ H s) (hc : X.A.in1.handled = none) (ap : src.off it) (h : src.has X.K H xs) : ∃ L : Heap → Prop, L s.heap ∧
    Draws X.prog X.w X.A.in1 it (src.fp it) xs.length (fun j v => ∃ x, xs[j]? = some x ∧ RelV x v) (fun j h => src.st it t j h ∧ L h) := by
  cases src with
  | txt x =>
    have h : xs = strL x := h
    subst h
    have D := draws_mono (Draws.text (prog := X.prog) (w := X.w) (A := X.A.in1) hc it x t) (P' := fun j v => ∃ y, (strL x)[j]? = some y ∧ RelV y v) fun j v ⟨c, u, e, ev⟩ => ⟨.str ⟨#[c]⟩, by
      unfold strL
      rw [List.getElem?_map, Array.getElem?_toList, e]
      rfl, u, ev⟩
    have len : (strL x).length = x.cps.size := by unfold strL; rw [List.length_map, Array.length_toList]
    refine ⟨fun _ => True, trivial, ?_⟩
    rw [len]
    exact ⟨fun i h z => D.live i h z.1, fun i h h' z k => ⟨D.frame i h h' z.1 k, trivial⟩, fun i s Q E hi z q => D.item i s Q E hi z.1 fun y h' tk p z' => q y h' tk p ⟨z', trivial⟩, fun s Q E z q => D.done s Q E z.1 q⟩
  | lst a =>
    obtain ⟨us, r1, p1, _⟩ := I.list h
    have D := draws_mono (Draws.list (prog := X.prog) (w := X.w) (A := X.A.in1) hc it a ap us.toArray) (P' := fun j v => ∃ y, xs[j]? = some y ∧ RelV y v) fun j v e => by
      have e : us.toArray[j]? = some v := e
      have e : us[j]? = some v := by simpa using e
      exact vals_at r1 e
    refine ⟨fun h => h.IsList a us.toArray, p1.isList, ?_⟩
    have len : xs.length = us.toArray.size := by rw [r1.length]; simp
    rw [len]
    exact D
  | tup a =>
    obtain ⟨us, r1, p1, _⟩ := I.tuple h
    have D := draws_mono (Draws.tuple (prog := X.prog) (w := X.w) (A := X.A.in1) hc it a ap us.toArray) (P' := fun j v => ∃ y, xs[j]? = some y ∧ RelV y v) fun j v e => by
      have e : us.toArray[j]? = some v := e
      have e : us[j]? = some v := by simpa using e
      exact vals_at r1 e
    refine ⟨fun h => h.IsTuple a us.toArray, p1, ?_⟩
    have len : xs.length = us.toArray.size := by rw [r1.length]; simp
    rw [len]
    exact D
theorem src_begins {src : Src} {t : Tok} {xs : List V} (I : Inv X pins σ H s) (h : src.has X.K H xs) : ∃ L : Heap → Prop, L s.heap ∧ Begins (src.val t) (src.ob t) L ∧ ∀ b, s.heap.objs.size ≤ b → src.off b := by
  cases src with
  | txt x => exact ⟨_, trivial, begins_text x t, fun _ _ => trivial⟩
  | lst a =>
    obtain ⟨us, r1, p1, _⟩ := I.list h
    exact ⟨_, p1.isList, begins_list a us.toArray, fun b hb e => Nat.lt_irrefl _ (Nat.lt_of_lt_of_le (e ▸ p1.lt) hb)⟩
  | tup a =>
    obtain ⟨us, r1, p1, _⟩ := I.tuple h
    refine ⟨_, p1, begins_tuple a us.toArray, fun b hb e => ?_⟩
    obtain ⟨o, ho, _⟩ := id p1
    exact Nat.lt_irrefl _ (Nat.lt_of_lt_of_le (e ▸ Heap.lt_size ho) hb)
theorem src_inj {src : Src} {xs ys : List V} (I : Inv X pins σ H s) (h : src.has X.K H xs) (h' : src.has X.K H ys) : xs = ys := by
  cases src with
  | txt x => exact Eq.trans h (Eq.symm h')
  | lst a => exact I.list_inj h h'
  | tup a => exact I.tuple_inj h h'
end
def ItzG (K : PySem.W.Frag) (a b : Src) : It :=
  ⟨fun i H => ∃ xs ys x y, a.has K H xs ∧ (b.has K H ys ∧ (xs[i]? = some x ∧ ys[i]? = some y)),
    fun i H v H' => ∃ T x y, v = .ref T ∧ (H T = none ∧ (H' = upd H T (.tup [x, y]) ∧ ((∀ xs, a.has K H xs → xs[i]? = some x) ∧ ∀ ys, b.has K H ys → ys[i]? = some y))),
    fun i H => ∃ xs ys, a.has K H xs ∧ (b.has K H ys ∧ (i ≤ xs.length ∧ (i ≤ ys.length ∧ (i = xs.length ∨ i = ys.length))))⟩
structure GCells (z TI TO i1 i2 : Addr) (a b : Src) : Prop where
  s : ZipSep2 z TI TO i1 i2 (a.fp i1) (b.fp i2)
  a1 : a.off i1
  b2 : b.off i2
theorem gcells_new (n : Nat) (a b : Src) (ha : ∀ c, n ≤ c → a.off c) (hb : ∀ c, n ≤ c → b.off c) : GCells (n + 4) (n + 2) (n + 3) n (n + 1) a b where
  s := {
    TIz := by show ¬ ((n + 2 : Nat) = n + 4); omega
    TOz := by show ¬ ((n + 3 : Nat) = n + 4); omega
    TITO := by show ¬ ((n + 2 : Nat) = n + 3); omega
    TIi1 := by show ¬ ((n + 2 : Nat) = n); omega
    mem1 := Src.fp_mem
    zf1 := Src.fp_off (ha _ (by omega)) (by show ¬ ((n + 4 : Nat) = n); omega)
    Tf1 := Src.fp_off (ha _ (by omega)) (by show ¬ ((n + 3 : Nat) = n); omega)
    TIi2 := by show ¬ ((n + 2 : Nat) = n + 1); omega
    mem2 := Src.fp_mem
    zf2 := Src.fp_off (hb _ (by omega)) (by show ¬ ((n + 4 : Nat) = n + 1); omega)
    Tf2 := Src.fp_off (hb _ (by omega)) (by show ¬ ((n + 3 : Nat) = n + 1); omega)
    sep1_2 := Src.fp_off (hb _ (by omega)) (by show ¬ ((n : Nat) = n + 1); omega)
    sep2_1 := Src.fp_off (ha _ (by omega)) (by show ¬ ((n + 1 : Nat) = n); omega) }
  a1 := ha _ (Nat.le_refl _)
  b2 := hb _ (Nat.le_succ _)
theorem turn_zipG {P : Program} {w : World} {K : PySem.W.Frag} {el : List Expr} {kk : Nat} {tp : Pos} {a b : Src} {t1 t2 : Tok} {z TI TO i1 i2 : Addr} (C : GCells z TI TO i1 i2 a b) :
    Turn P w K (.Tuple el kk tp) (ItzG K a b) [z, TI, TO, i1, i2] z (fun i h => IsZip h z TI TO .none ∧ (IsTupOf2 h TI (.ref i1) (.ref i2) ∧ ((∃ x y, IsTupOf2 h TO x y) ∧ (a.st i1 t1 i h ∧ b.st i2 t2 i h)))) where
  mem := by simp
  obj := fun i h st c hc => by
    obtain ⟨g1, g2, ⟨u, v, g3⟩, g4, g5⟩ := st
    rcases five hc with q | q | q | q | q <;> rw [q]
    · exact ⟨_, g1, fun v q => nomatch q⟩
    · exact ⟨_, g2, fun v q => nomatch q⟩
    · exact ⟨_, g3, fun v q => nomatch q⟩
    · exact Src.st_obj g4
    · exact Src.st_obj g5
  keep := fun i h h' st k => by
    obtain ⟨g1, g2, ⟨u, v, g3⟩, g4, g5⟩ := st
    exact ⟨k _ (by simp) _ g1, k _ (by simp) _ g2, ⟨u, v, k _ (by simp) _ g3⟩, Src.st_at g4 fun o y => k _ (by simp) o y, Src.st_at g5 fun o y => k _ (by simp) o y⟩
  item := by
    intro X hP hw hK hc
    intro i pins s σ H E I hf st hg
    subst hP hw hK
    obtain ⟨g1, g2, ⟨x0, y0, g3⟩, g4, g5⟩ := st
    obtain ⟨xs, ys, x, y, qx, qy, hx, hy⟩ := hg
    have zl : z < s.heap.objs.size := Heap.lt_size g1
    obtain ⟨L1, l1, D1⟩ := src_draws (t := t1) I (I.ok.hd hc) C.a1 qx
    obtain ⟨L2, l2, D2⟩ := src_draws (t := t2) I (I.ok.hd hc) C.b2 qy
    have lu : i < xs.length := (List.getElem?_eq_some_iff.mp hx).1
    have lv : i < ys.length := (List.getElem?_eq_some_iff.mp hy).1
    refine wpAny_pyNext_zipD2_item C.s D1 D2 g1 g2 g3 ⟨g4, l1⟩ ⟨g5, l2⟩ lu lv fun x1 x2 h1 tk ex ey z1 t1 s1 s2 hT hsz hk => ?_
    obtain ⟨x', hx', ru⟩ := ex
    obtain ⟨y', hy', rv⟩ := ey
    rw [hx] at hx'
    rw [hy] at hy'
    cases hx'
    cases hy'
    refine ⟨_, rfl, wpAny_letOwnedTupleGo_zip (s := { s with heap := h1, toks := tk }) z1 fun h2 z2 sb => ?_⟩
    have T2 : h2.get? s.heap.objs.size = some { cls := .type "tuple", data := .seq #[x1, x2] } := (sb.2 _ (Nat.ne_of_gt zl)).trans hT
    have new : ObjOk X.prog X.w (upd H s.heap.objs.size (.tup [x, y])) h2 s.heap.objs.size (.tup [x, y]) := ⟨by show 2 ≤ sizeLine; decide, [x1, x2], .cons ru (.cons rv .nil), ⟨_, T2, rfl, _, rfl⟩⟩
    have k2 : ∀ c o, c ≠ z → c ≠ TO → c ≠ i1 → c ≠ i2 → s.heap.get? c = some o → h2.get? c = some o := fun c o c1 c2 c3 c4 e => (sb.2 c c1).trans (hk c o c1 c2 c3 c4 e)
    have I1 : Inv X pins σ (upd H s.heap.objs.size (.tup [x, y])) { s with heap := h2, toks := tk } :=
      I.turnedNew (ch := [z, TI, TO, i1, i2]) (fun c o hb => k2 c o (fun e => hb (by simp [e])) (fun e => hb (by simp [e])) (fun e => hb (by simp [e])) fun e => hb (by simp [e])) hf (Nat.le_refl _) new
    refine ⟨.ref s.heap.objs.size, _, I1, rfl, ⟨_, x, y, rfl, I.hok.fresh (Nat.le_refl _), rfl, fun l hl => ?_, fun l hl => ?_⟩, ⟨z2, k2 _ _ C.s.TIz C.s.TITO C.s.TIi1 C.s.TIi2 g2, ⟨x1, x2, (sb.2 _ C.s.TOz).trans t1⟩, ?_, ?_⟩, fun c hcm => ?_⟩
    · rw [src_inj I hl qx]
      exact hx
    · rw [src_inj I hl qy]
      exact hy
    · exact Src.st_at s1.1 fun o q => (sb.2 _ C.s.zi1.symm).trans q
    · exact Src.st_at s2.1 fun o q => (sb.2 _ C.s.zi2.symm).trans q
    · have below : c < s.heap.objs.size := by
        rcases five hcm with q | q | q | q | q
        · exact q ▸ zl
        · exact q ▸ Heap.lt_size g2
        · exact q ▸ Heap.lt_size g3
        · obtain ⟨_, e, _⟩ := Src.st_obj g4
          exact q ▸ Heap.lt_size e
        · obtain ⟨_, e, _⟩ := Src.st_obj g5
          exact q ▸ Heap.lt_size e
      rw [upd_ne (Nat.ne_of_lt below)]
      exact (hf c hcm).1
  done := by
    intro X hP hw hK hc
    intro i pins s σ H E I hf st hg
    subst hP hw hK
    obtain ⟨g1, g2, ⟨x0, y0, g3⟩, g4, g5⟩ := st
    obtain ⟨xs, ys, qx, qy, e1, e2, e3⟩ := hg
    obtain ⟨L1, l1, D1⟩ := src_draws (t := t1) I (I.ok.hd hc) C.a1 qx
    obtain ⟨L2, l2, D2⟩ := src_draws (t := t2) I (I.ok.hd hc) C.b2 qy
    refine wpAny_pyNext_zipD2_end C.s D1 D2 g1 g2 g3 ⟨g4, l1⟩ ⟨g5, l2⟩ e1 e2 e3 fun h1 tk hk => ⟨rfl, I.turnedL (ch := [z, TI, TO, i1, i2]) (fun c o hb => hk c o (fun e => hb (by simp [e])) (fun e => hb (by simp [e])) (fun e => hb (by simp [e])) fun e => hb (by simp [e])) hf⟩
  self := fun _ _ _ _ _ st h => wpAny_pyIter_zip st.1 h
def iZipG (K : PySem.W.Frag) (ta : TA) : TI := fun σ H R => ta σ H fun vs H1 => ∃ a b xs ys, vs = [a.v, b.v] ∧ (a.has K H1 xs ∧ (b.has K H1 ys ∧ R (ItzG K a b) H1))
theorem pi_zipG {X : Cx} {f1 f2 : Expr} {ta : TA} {p pos tpos : Pos} {elts : List Expr} {kk : Nat} (hg : Gl X "zip") (hm : X.mg "zip" = none) (ha : PA X [f1, f2] ta)
    (hs : starEach [f1, f2] X.env = (false, eval f1 X.env) :: starEach [f2] X.env := by rfl) (hpl : (backTo pos (starEach [f2] X.env)).any (·.1) = false := by rfl) :
    PI X (.Tuple elts kk tpos) (.Call (.Name "zip" p) [f1, f2] [] pos) (iZipG X.K ta) := by
  refine .mk ?_
  intro pins s σ H R I h
  refine Call_ (ld_blt I hg hm boot_zip (PyProof.Rows.callWith_type1 (thn (ha.run pos pins s σ H _ I h) fun us s1 q0 => ?_) hs hpl))
  obtain ⟨vs, H1, I1, r1, a, b, xs, ys, ex, qx, qy, q⟩ := q0
  subst ex
  obtain ⟨t1, t2, rfl⟩ : ∃ t1 t2, us = [a.val t1, b.val t2] := by
    cases r1 with
    | cons r r2 =>
      cases r2 with
      | cons r' r3 =>
        cases r3
        obtain ⟨t1, rfl⟩ := Src.rel r
        obtain ⟨t2, rfl⟩ := Src.rel r'
        exact ⟨t1, t2, rfl⟩
  obtain ⟨L1, l1, B1, n1⟩ := src_begins (t := t1) I1 qx
  obtain ⟨L2, l2, B2, n2⟩ := src_begins (t := t2) I1 qy
  refine zip_begins2 B1 B2 l1 l2 fun h1 hz hTI hTO g1 g2 hsz hk => wpAny_pyIter_zip hz ?_
  have I2 : Inv X pins σ H1 { s1 with heap := h1 } := I1.kept (t' := s1.toks) hk
  have C := gcells_new s1.heap.objs.size a b n1 n2
  refine ⟨s1.heap.objs.size + 4, [s1.heap.objs.size + 4, s1.heap.objs.size + 2, s1.heap.objs.size + 3, s1.heap.objs.size, s1.heap.objs.size + 1], _, _, H1, rfl, I2, turn_zipG (t1 := t1) (t2 := t2) C, ⟨hz, hTI, ⟨_, _, hTO⟩, Src.st_new g1, Src.st_new g2⟩, fun c hcm => ?_, q⟩
  have above : s1.heap.objs.size ≤ c := by
    rcases five hcm with e | e | e | e | e <;> rw [e]
    · exact Nat.le_add_right _ 4
    · exact Nat.le_add_right _ 2
    · exact Nat.le_add_right _ 3
    · exact Nat.le_refl _
    · exact Nat.le_add_right _ 1
  exact I1.fpOk above (I1.hok.fresh above)
theorem tLc_zipG {K : PySem.W.Frag} {ta : TA} {g : TG} {tt : TT} {te : TE} {vs : List Nat} {σ : L2.St} {H : Hp} {Q : VK} (h : ta σ H fun ws H1 => ∃ a b xs ys, ws = [a.v, b.v] ∧ (a.has K H1 xs ∧ (b.has K H1 ys ∧ ∀ D, H1 D = none → LcB (ItzG K a b) g tt te vs σ H1 D (Q (.ref D))))) : tLc (iZipG K ta) g tt te vs σ H Q := h
theorem zippedG {K : PySem.W.Frag} {a b : Src} {xs ys : List V} : Zipped (ItzG K a b) xs ys fun H => a.has K H xs ∧ b.has K H ys where
  go := fun i H g l1 l2 => ⟨xs, ys, xs[i], ys[i], g.1, g.2, List.getElem?_eq_getElem l1, List.getElem?_eq_getElem l2⟩
  yld := fun i H v H' g ⟨T, x, y, h1, h2, h3, h4, h5⟩ => ⟨T, x, y, h1, h2, h3, h4 xs g.1, h5 ys g.2⟩
  stop := fun i H g l1 l2 e => ⟨xs, ys, g.1, g.2, l1, l2, e⟩
end U
namespace U
open PySem PySem.Spec PyProof.Rows L2

/-! ### patterns -/
def chN : List (List Nat) := [[0], [1], [2], [0, 1], [0, 2], [1, 2], [0, 1, 2]]
theorem chS_wd : chN.map wd = chS := by decide
/-- what the head tells of the module patterns -/
def KP (K : PySem.W.Frag) : Prop := ∀ H, SqT K H (He.ga K "_CHOICES") (chS.map V.str)
theorem kpB_ok {K : PySem.W.Frag} (h : kpB K = true) : KP K := fun H => He.tupB_ok h H
def isCh : V → Bool
  | .str z => decide (z ∈ chS)
  | _ => false
/-- is a value a pattern of n crates -/
def PatB (K : PySem.W.Frag) (H : Hp) (n : Nat) (x : V) (b : Bool) : Prop := (∃ a, Is K H x a ∧ a ≠ .lst ∧ a ≠ .tup ∧ b = false) ∨
  ∃ p xs, x = .ref p ∧ SqA K H p xs ∧ xs.length ≤ 1000 ∧ (∀ v ∈ xs, ∃ a, Is K H v a) ∧ b = (decide (xs.length = n) && xs.all isCh)
/-- a pattern, place by place -/
def Pt (K : PySem.W.Frag) (H : Hp) (n : Nat) (x : V) (qs : List (List Nat)) : Prop := ∃ p, x = .ref p ∧ SqA K H p (qs.map fun q => V.str (wd q)) ∧ qs.length = n ∧ ∀ q ∈ qs, q ∈ chN
/-- no pattern -/
def NoPt (K : PySem.W.Frag) (H : Hp) (n : Nat) (x : V) (E : XK) : Prop := PatB K H n x false ∧ Rz K "InvalidPattern" "value" x H E
section
variable {K : PySem.W.Frag} {H H' : Hp} {x : V} {n : Nat} {b : Bool} {E : XK}
theorem PatB.same (e : Same H H') (h : PatB K H n x b) : PatB K H' n x b := by
  rcases h with ⟨a, h, r⟩ | ⟨p, xs, r, h, l, g, q⟩
  · exact .inl ⟨a, h.same e, r⟩
  · exact .inr ⟨p, xs, r, h.same e, l, fun v m => by
      obtain ⟨a, z⟩ := g v m
      exact ⟨a, z.same e⟩, q⟩
theorem NoPt.same (e : Same H H') (h : NoPt K H n x E) : NoPt K H' n x E := ⟨h.1.same e, Rz.same e h.2⟩
theorem Pt.same {qs : List (List Nat)} (e : Same H H') (h : Pt K H n x qs) : Pt K H' n x qs := by
  obtain ⟨p, h1, h2, h3⟩ := h
  exact ⟨p, h1, h2.same e, h3⟩
theorem isCh_wd {q : List Nat} (h : q ∈ chN) : isCh (.str (wd q)) = true := decide_eq_true (chS_wd ▸ List.mem_map.mpr ⟨q, h, rfl⟩)
theorem Pt.patB {qs : List (List Nat)} (hn : n ≤ 1000) (h : Pt K H n x qs) : PatB K H n x true := by
  obtain ⟨p, h1, h2, h3, h4⟩ := h
  refine .inr ⟨p, _, h1, h2, by rw [List.length_map]; omega, fun v m => ?_, ?_⟩
  · obtain ⟨q, mq, rfl⟩ := List.mem_map.mp m
    exact ⟨.str, is_str _⟩
  · rw [List.length_map, decide_eq_true h3, Bool.true_and]
    refine (List.all_eq_true.mpr fun v m => ?_).symm
    obtain ⟨q, mq, rfl⟩ := List.mem_map.mp m
    exact isCh_wd (h4 q mq)
end
theorem chN_ok {q : List Nat} (h : q ∈ chN) : D3 q ∧ 1 ≤ q.length ∧ q.length ≤ 3 := by
  revert q
  show ∀ q ∈ chN, D3 q ∧ 1 ≤ q.length ∧ q.length ≤ 3
  unfold D3
  decide
def prodL (qs : List (List Nat)) : Int := (qs.map fun q => (q.length : Int)).foldl (· * ·) 1
theorem sqA_src {K : PySem.W.Frag} {H : Hp} {p : Addr} {xs : List V} (h : SqA K H p xs) : ∃ s : Src, s.v = .ref p ∧ s.has K H xs ∧ ∀ H', Same H H' → s.has K H' xs :=
  h.elim (fun z => ⟨.lst p, rfl, z, fun H' s => Same.seq s z⟩) fun z => ⟨.tup p, rfl, z, fun H' s => Same.sqT s z⟩
theorem tFor_seqA {K : PySem.W.Frag} {H : Hp} {t : TE} {g : TG} {tb : TS} {D : Ends} {σ : L2.St} {p : Addr} {xs : List V} (h : SqA K H p xs) (ht : ∀ Q : VK, t σ H Q = Q (.ref p) H)
    (hc : ∀ (J : It) (G : Hp → Prop), Plain J xs G → (∀ H', Same H H' → G H') → tFor (fun _ H' R => R J H') g tb D σ H) : tFor (iSeq K t) g tb D σ H := by
  rcases h with h | h
  · refine .inl ?_
    show t σ H _
    rw [ht]
    exact ⟨p, rfl, ⟨xs, h⟩, hc _ _ plain_L fun H' e => Same.seq e h⟩
  · refine .inr ?_
    show t σ H _
    rw [ht]
    exact ⟨p, rfl, ⟨xs, h⟩, hc _ _ plain_T fun H' e => Same.sqT e h⟩
theorem prodL_snoc {qs : List (List Nat)} {i : Nat} {q : List Nat} (h : qs[i]? = some q) : prodL (qs.take (i + 1)) = prodL (qs.take i) * (q.length : Int) := by
  have lt := (List.getElem?_eq_some_iff.mp h).1
  unfold prodL
  rw [List.take_succ_eq_append_getElem lt, (List.getElem?_eq_some_iff.mp h).2, List.map_append, List.foldl_append]
  rfl
theorem occ_in {d : Nat} {q : List Nat} (hd : d < 3) (hq : q ∈ chN) : (!(Builtin.Str.occurrences (wd q) (pl d) 0 (wd q).length 1).isEmpty) = decide (d ∈ q) := by
  have key : ∀ q ∈ chN, ∀ d, d < 3 → (!(Builtin.Str.occurrences (wd q) (pl d) 0 (wd q).length 1).isEmpty) = decide (d ∈ q) := by decide +kernel
  exact key q hq d hd
def sp_is_pattern (K : PySem.W.Frag) : Sp := sp2 fun y x H Q E => YardOr K H y E fun rows => ∃ b, PatB K H rows.length x b ∧ ∀ H', Same H H' → Q (.bl b) H'
def sp_check_pattern (K : PySem.W.Frag) : Sp := sp2 fun y x H Q E => YardOr K H y E fun rows => NoPt K H rows.length x E ∨ ∃ qs, Pt K H rows.length x qs ∧ ∀ H', Same H H' → Q .non H'
def fitsB (qs : List (List Nat)) (ds : List Nat) : Bool := (ds.zip qs).all fun p => decide (p.1 ∈ p.2)
def sp_fits (K : PySem.W.Frag) : Sp := sp3 fun y p x H Q E => YardOr K H y E fun rows => NoPt K H rows.length p E ∨ ∃ qs, Pt K H rows.length p qs ∧ (NoArr K H rows.length x E ∨ ∃ ds, Arr rows.length x ds ∧ ∀ H', Same H H' → Q (.bl (fitsB qs ds)) H')
def sp_how_many_fit (K : PySem.W.Frag) : Sp := sp2 fun y p H Q E => YardOr K H y E fun rows => NoPt K H rows.length p E ∨ ∃ qs, Pt K H rows.length p qs ∧ ∀ H', Same H H' → Q (.int (prodL qs)) H'
/-- an arrangement, then a pattern: refused -/
def RefAP (K : PySem.W.Frag) (H : Hp) (y x p : V) (E : XK) : Prop := YardOr K H y E fun rows => NoArr K H rows.length x E ∨ ∃ ds, Arr rows.length x ds ∧ NoPt K H rows.length p E
/-- a pattern, then an arrangement: refused -/
def RefPA (K : PySem.W.Frag) (H : Hp) (y p x : V) (E : XK) : Prop := YardOr K H y E fun rows => NoPt K H rows.length p E ∨ ∃ qs, Pt K H rows.length p qs ∧ NoArr K H rows.length x E
/-- two patterns: refused -/
def RefPP (K : PySem.W.Frag) (H : Hp) (y p q : V) (E : XK) : Prop := YardOr K H y E fun rows => NoPt K H rows.length p E ∨ ∃ qs, Pt K H rows.length p qs ∧ NoPt K H rows.length q E
def sp_cost_to (K : PySem.W.Frag) : Sp := sp3 fun y x p H _ E => RefAP K H y x p E
def sp_nearest (K : PySem.W.Frag) : Sp := sp3 fun y x p H _ E => RefAP K H y x p E
def sp_how_many_nearest (K : PySem.W.Frag) : Sp := sp3 fun y x p H _ E => RefAP K H y x p E
def sp_cost_from (K : PySem.W.Frag) : Sp := sp3 fun y p x H _ E => RefPA K H y p x E
def sp_nearest_start (K : PySem.W.Frag) : Sp := sp3 fun y p x H _ E => RefPA K H y p x E
def sp_cost_between (K : PySem.W.Frag) : Sp := sp3 fun y p q H _ E => RefPP K H y p q E
def sp_pair_between (K : PySem.W.Frag) : Sp := sp3 fun y p q H _ E => RefPP K H y p q E
def t_is_pattern (K : PySem.W.Frag) (E : XK) : TS := (tSeq (tDrop (tFn (sp_check_yard K) E (tCons (tVar 0) tNil))) (tRet (tAndV (tCB (uIsi K) (tCons (tVar 1) (tCons (tTup (tCons (tC (.ty "list")) (tCons (tC (.ty "tuple")) tNil))) tNil))) (tAndV (tOp (uEq K) (tCB (uLen K) (tCons (tVar 1) tNil)) (tCB (rLenO (He.ga K "Yard") (sp_Yard_len K)) (tCons (tVar 0) tNil))) (tCB (rAll K) (tCons (tLc (iSeq K (tVar 1)) (gName 2) tYes (tAndV (tCB (uIsi K) (tCons (tVar 2) (tCons (tC (.ty "str")) tNil))) (tOp (uIn K false) (tVar 2) (tC (.ref (He.ga K "_CHOICES"))))) [2]) tNil))))))
def t_check_pattern (K : PySem.W.Frag) (E : XK) : TS := (tIfS (tNot (tB (tFn (sp_is_pattern K) E (tCons (tVar 0) (tCons (tVar 1) tNil))))) (tRse K "InvalidPattern" "value" E (tCons (tVar 1) tNil)) tNext)
def t_fits (K : PySem.W.Frag) (E : XK) : TS := (tSeq (tDrop (tFn (sp_check_pattern K) E (tCons (tVar 0) (tCons (tVar 1) tNil)))) (tSeq (tDrop (tFn (sp_check_arrangement K) E (tCons (tVar 0) (tCons (tVar 2) tNil)))) (tRet (tCB (rAll K) (tCons (tLc (iZipG K (tCons (tVar 2) (tCons (tVar 1) tNil))) (gTup K 2 (gCons (gName 3) (gCons (gName 4) gNil))) tYes (tOp (uIn K false) (tVar 3) (tVar 4)) [3, 4]) tNil)))))
def t_how_many_fit (K : PySem.W.Frag) (E : XK) : TS := (tSeq (tDrop (tFn (sp_check_pattern K) E (tCons (tVar 0) (tCons (tVar 1) tNil)))) (tSeq (tAsg (tC (.int 1)) (gName 2)) (tSeq (tFor (iSeq K (tVar 1)) (gName 3) (tAsg (tOp uMul (tVar 2) (tCB (uLen K) (tCons (tVar 3) tNil))) (gName 2))) (tRet (tVar 2)))))
def t_cost_to (K : PySem.W.Frag) (E : XK) : TS := (tSeq (tDrop (tFn (sp_check_arrangement K) E (tCons (tVar 0) (tCons (tVar 1) tNil)))) (tSeq (tDrop (tFn (sp_check_pattern K) E (tCons (tVar 0) (tCons (tVar 2) tNil)))) tNeverS))
def t_nearest (K : PySem.W.Frag) (E : XK) : TS := (tSeq (tDrop (tFn (sp_check_arrangement K) E (tCons (tVar 0) (tCons (tVar 1) tNil)))) (tSeq (tDrop (tFn (sp_check_pattern K) E (tCons (tVar 0) (tCons (tVar 2) tNil)))) tNeverS))
def t_how_many_nearest (K : PySem.W.Frag) (E : XK) : TS := (tSeq (tDrop (tFn (sp_check_arrangement K) E (tCons (tVar 0) (tCons (tVar 1) tNil)))) (tSeq (tDrop (tFn (sp_check_pattern K) E (tCons (tVar 0) (tCons (tVar 2) tNil)))) (tSeq (tAsg (tMeth (He.ga K "Yard") "reckoning" (sp_Yard_reckoning K) [] E (tVar 0) tNil) (gName 3)) (tSeq tNeverS tNeverS))))
def t_cost_from (K : PySem.W.Frag) (E : XK) : TS := (tSeq (tDrop (tFn (sp_check_pattern K) E (tCons (tVar 0) (tCons (tVar 1) tNil)))) (tSeq (tDrop (tFn (sp_check_arrangement K) E (tCons (tVar 0) (tCons (tVar 2) tNil)))) tNeverS))
def t_nearest_start (K : PySem.W.Frag) (E : XK) : TS := (tSeq (tDrop (tFn (sp_check_pattern K) E (tCons (tVar 0) (tCons (tVar 1) tNil)))) (tSeq (tDrop (tFn (sp_check_arrangement K) E (tCons (tVar 0) (tCons (tVar 2) tNil)))) tNeverS))
def t_cost_between (K : PySem.W.Frag) (E : XK) : TS := (tSeq (tDrop (tFn (sp_check_pattern K) E (tCons (tVar 0) (tCons (tVar 1) tNil)))) (tSeq (tDrop (tFn (sp_check_pattern K) E (tCons (tVar 0) (tCons (tVar 2) tNil)))) tNeverS))
def t_pair_between (K : PySem.W.Frag) (E : XK) : TS := (tSeq (tDrop (tFn (sp_check_pattern K) E (tCons (tVar 0) (tCons (tVar 1) tNil)))) (tSeq (tDrop (tFn (sp_check_pattern K) E (tCons (tVar 0) (tCons (tVar 2) tNil)))) (tSeq (tAsg (tMeth (He.ga K "Yard") "reckoning" (sp_Yard_reckoning K) [] E (tVar 0) tNil) (gName 3)) (tSeq (tIfS (tTest (tOp uIs (tMeth (He.ga K "Reckoning") "told" (sp_Reckoning_told K) [] E (tVar 3) (tCons (tMeth (He.ga K "Reckoning") "cheapest" (sp_Reckoning_cheapest K) [] E (tVar 3) (tCons (tVar 1) (tCons (tVar 2) tNil))) tNil)) (tC .non))) (tRet (tC .non)) tNext) (tSeq (tAsg (tFn (sp_first_apart K) E (tCons (tVar 1) (tCons (tVar 2) tNil))) (gName 4)) (tSeq (tIfS (tTest (tOp uIs (tVar 4) (tC .non))) (tSeq tNeverS tNeverS) tNext) (tSeq tNeverS (tSeq tNeverS (tSeq tNeverS (tSeq tNeverS tNeverS))))))))))
section
variable {K : PySem.W.Frag} (F : KF K) (P : KP K) {vs : List V} {H : Hp} {Q : VK} {E : XK}
local macro_rules | `(tactic| walk_at "w") => `(tactic| try simp only [turnE, lcT, Snoc, tRet, tRetN, tAndV, tOrV, tNotV, tCB, tCons, tVar, tNil, tC, tOp, tSeq, tAsg, gName, gSub, tIfS, tDrop, tFn, tTup, tLst, tNext, tB, tTest, tNot, tAnd, tOr, tIf, tChain, tUn, rU, tFld, tPart, tNoPart, L2.tSl, tBM, tPar, tPar3, tTruth, tDNewK,
  L2.start, List.map_cons, List.map_nil, List.length_cons, List.length_nil, List.replicate_succ, List.replicate_zero, List.append_nil, List.nil_append, List.cons_append, List.singleton_append, Nat.sub_self, Nat.zero_add, Nat.reduceAdd, Nat.reduceSub,
  List.getElem?_cons_zero, List.getElem?_cons_succ, List.set_cons_zero, List.set_cons_succ, Option.some.injEq, exists_eq_left, exists_eq_left', V.int.injEq, V.bl.injEq, V.str.injEq, V.ref.injEq,
  uAdd_int, uAdd_str, uSub_int, uMul_int, uMul_str, uDiv_int, uMod_int, uPow_int, uLt_int, uLe_int, uGt_int, uGe_int, uIs_non, uNis_non, uIs_bl, uNis_bl, sp1, sp2, sp3, sp4, uEq_int, uEq_str, uNe_int, uNe_str, uSl_str, uLen_str, decide_eq_true_eq])
local macro_rules | `(tactic| walk_at "1") => `(tactic| try simp only [turnE, lcT, Snoc, tRet, tRetN, tAndV, tOrV, tNotV, tCB, tCons, tVar, tNil, tC, tOp, tAsg, gName, gSub, tIfS, tDrop, tFn, tTup, tLst, tNext, tB, tTest, tNot, tAnd, tOr, tIf, tChain, tUn, rU, tFld, tPart, tNoPart, L2.tSl, tBM, tPar, tPar3, tTruth, tDNewK,
  L2.start, List.map_cons, List.map_nil, List.length_cons, List.length_nil, List.replicate_succ, List.replicate_zero, List.append_nil, List.nil_append, List.cons_append, List.singleton_append, Nat.sub_self, Nat.zero_add, Nat.reduceAdd, Nat.reduceSub,
  List.getElem?_cons_zero, List.getElem?_cons_succ, List.set_cons_zero, List.set_cons_succ, Option.some.injEq, exists_eq_left, exists_eq_left', V.int.injEq, V.bl.injEq, V.str.injEq, V.ref.injEq,
  uAdd_int, uAdd_str, uSub_int, uMul_int, uMul_str, uDiv_int, uMod_int, uPow_int, uLt_int, uLe_int, uGt_int, uGe_int, uIs_non, uNis_non, uIs_bl, uNis_bl, sp1, sp2, sp3, sp4, uEq_int, uEq_str, uNe_int, uNe_str, uSl_str, uLen_str, decide_eq_true_eq])
local macro_rules | `(tactic| walk_at "s") => `(tactic| ((try dsimp only [turnE]); with_reducible refine seq_ ?_))

theorem in_ch {z : Str} : inV (.str z) (chS.map V.str) = isCh (.str z) := by
  show (chS.map V.str).any (fun y => eqV y (.str z)) = decide (z ∈ chS)
  rw [List.any_map, Bool.eq_iff_iff, List.any_eq_true, decide_eq_true_iff]
  constructor
  · rintro ⟨w, h1, h2⟩
    have : w = z := of_decide_eq_true h2
    exact this ▸ h1
  · intro h
    exact ⟨z, h, decide_eq_true rfl⟩
include F P in
theorem read_is_pattern (h : sp_is_pattern K vs H Q E) : t_is_pattern K E { nx := fun _ H' => Q .non H', rt := Q } (start ["yard", "value", "places"] vs) H := by
  match vs, h with
  | [y, x], h =>
    unfold t_is_pattern
    walk_at "s"
    walk_at "1"
    refine chk_yard h fun p rows ep hy ⟨b, hb, q⟩ => ?_
    subst ep
    walk_at "1"
    refine ⟨by decide, fun l hl => ?_⟩
    have e1 : Same H (upd H l (.tup [.ty "list", .ty "tuple"])) := same_new hl
    have hb1 := hb.same e1
    have hl1 : upd H l (.tup [.ty "list", .ty "tuple"]) l = some (.tup [.ty "list", .ty "tuple"]) := upd_same
    have hy1 := hy.same e1
    generalize upd H l (.tup [.ty "list", .ty "tuple"]) = H1 at *
    rcases hb1 with ⟨a, h1, h2, h3, rfl⟩ | ⟨r, xs, rfl, h1, few, h2, rfl⟩
    · refine isi_seq F hl1 h1 ?_
      have : (a.sub .lst || a.sub .tup) = false := by cases a <;> first | rfl | exact absurd rfl h2 | exact absurd rfl h3
      rw [this]
      exact ⟨_, rfl, q _ e1⟩
    · obtain ⟨a, ka, ks⟩ := h1.kind
      refine isi_seq F hl1 ka ?_
      rw [ks]
      refine ⟨_, rfl, ?_⟩
      rw [if_pos rfl]
      refine uLen_seq h1 (lenO_of hy1 ?_)
      walk_at "1"
      by_cases e : xs.length = rows.length
      · rw [if_pos (show (xs.length : Int) = rows.length by omega)]
        refine tLc_seq (p := r) h1 (tVar_eq rfl) fun J G Pl hG D hD => ?_
        refine lc_grow Pl (fun acc _ => acc = ((xs.map isCh).take acc.length).map V.bl) hD (Nat.le_trans few (by decide)) hG (fun _ _ => rfl) (fun _ _ _ _ _ _ h => h) ?_ ?_
        · rintro i v acc H2 Q' hv s hl ha k
          obtain ⟨a, z⟩ := h2 v (List.mem_of_getElem? hv)
          have z := z.same s
          have k := k (.bl (isCh v)) H2 (Same.refl _) (take_snoc V.bl ha hl (by simp [hv]))
          walk_at "1"
          refine isi_ty (b := .str) F rfl z ?_
          walk_at "1"
          by_cases e : a = .str
          · subst e
            obtain ⟨w, rfl⟩ := z.str_inv
            simp only [Ty.sub, decide_true, Bool.true_or, if_true]
            exact ⟨_, _, rfl, .inr (P H2), rfl, by decide, by simpa [in_ch] using k⟩
          · rw [if_neg (by simp [Ty.sub, e])]
            have : isCh v = false := by cases v <;> first | rfl | exact absurd z.of_str e
            rwa [this] at k
        · rintro acc H2 hl s hD2 ha
          have hm : acc = (xs.map isCh).map V.bl := by
            rw [ha, hl, List.take_of_length_le (by simp)]
          refine ⟨D, xs.map isCh, rfl, .inl (.inl (by rw [hD2, hm])), ?_⟩
          have := q H2 (e1.trans s)
          simpa [e, List.all_map, Function.comp_def] using this
      · rw [if_neg (show ¬ (xs.length : Int) = rows.length by omega)]
        have := q H1 e1
        simpa [e] using this
include F P in
theorem read_check_pattern (h : sp_check_pattern K vs H Q E) : t_check_pattern K E { nx := fun _ H' => Q .non H', rt := Q } (start ["yard", "pattern"] vs) H := by
  match vs, h with
  | [y, x], h =>
    unfold t_check_pattern
    walk_at "1"
    refine YardOr.to h id fun p rows _ hy g => ?_
    rcases g with g | ⟨qs, h1, q⟩
    · refine ⟨false, g.1, fun H' s => ⟨false, rfl, ?_⟩⟩
      exact rse_var (K := K) (c := "InvalidPattern") (f := "value") (E := E) (σ := [some y, some x]) (i := 1) (D := { nx := fun _ H' => Q .non H', rt := Q }) rfl (Rz.same s g.2)
    · have : rows.length ≤ 1000 := by
        obtain ⟨_, _, _, _, _, _, h4, _⟩ := hy
        omega
      exact ⟨true, h1.patB this, fun H' s => ⟨true, rfl, q H' s⟩⟩
/-- a pattern is asked for, behind it comes what is due -/
theorem chk_pt {y p : V} {k : List (List (Option Int)) → List (List Nat) → Prop} (h : YardOr K H y E fun rows => NoPt K H rows.length p E ∨ ∃ qs, Pt K H rows.length p qs ∧ k rows qs)
    (q : ∀ a rows qs, y = .ref a → Yd K H a rows → Pt K H rows.length p qs → k rows qs → ∀ H', Same H H' → Q .non H') : sp_check_pattern K [y, p] H Q E :=
  YardOr.to h id fun a rows ea hy g => g.imp id fun ⟨qs, h1, h2⟩ => ⟨qs, h1, q a rows qs ea hy h1 h2⟩
include F P in
theorem read_fits (h : sp_fits K vs H Q E) : t_fits K E { nx := fun _ H' => Q .non H', rt := Q } (start ["yard", "pattern", "arrangement", "place", "places"] vs) H := by
  match vs, h with
  | [y, p, x], h =>
    unfold t_fits
    walk_at "s"
    walk_at "1"
    refine chk_pt h fun a rows qs ea hy hp g H1 s1 => ?_
    subst ea
    walk_at "s"
    walk_at "1"
    refine chk_arr3 (k := fun _ ds => Arr rows.length x ds ∧ ∀ H', Same H H' → Q (.bl (fitsB qs ds)) H') (yardOr_of F (hy.same s1) (g.elim (fun z => .inl (z.same s1)) fun ⟨ds, z, q⟩ => .inr ⟨ds, z, z, q⟩)) fun _ _ ds _ _ _ ⟨ha, q⟩ H2 s2 => ?_
    have s12 := s1.trans s2
    obtain ⟨rfl, hl, h3⟩ := ha
    obtain ⟨l, rfl, hs, hn, hc⟩ := hp.same s12
    have few : rows.length ≤ 60 := by
      obtain ⟨_, _, _, _, _, _, h4, _⟩ := hy
      exact h4
    have q : ∀ H', Same H2 H' → Q (.bl (fitsB qs ds)) H' := fun H' s => q H' (s12.trans s)
    clear g hp hy s1 s2 s12
    walk_at "1"
    obtain ⟨sc, sv, sh, sk⟩ := sqA_src hs
    refine tLc_zipG ?_
    refine ⟨.str (wd ds), rfl, .ref l, rfl, .txt (wd ds), sc, strL (wd ds), _, by rw [sv]; rfl, rfl, sh, fun D nD => ?_⟩
    refine lc_zip (zippedG (K := K) (a := .txt (wd ds)) (b := sc) (xs := strL (wd ds)) (ys := qs.map fun q => V.str (wd q))) (fun i H' => Off D H2 H' ∧ H' D = some (.lst (((ds.zip qs).take i).map fun p => V.bl (decide (p.1 ∈ p.2))))) ⟨off_upd, upd_same⟩ (fun i H' z => ⟨rfl, sk _ (z.1.same nD)⟩) ?_ ?_
    · rintro i a b T H3 ha hb ⟨o3, g3⟩ nT
      rw [strL_wd, List.getElem?_map] at ha
      rw [List.getElem?_map] at hb
      obtain ⟨d, hd, rfl⟩ := Option.map_eq_some_iff.mp ha
      obtain ⟨q1, hq, rfl⟩ := Option.map_eq_some_iff.mp hb
      have nTD : T ≠ D := by rintro rfl; rw [g3] at nT; cases nT
      have o4 : Off D H2 (upd H3 T (.tup [.str (pl d), .str (wd q1)])) := Off.trans o3 (Same.off (same_new nT))
      have g4 : upd H3 T (.tup [.str (pl d), .str (wd q1)]) D = some (.lst (((ds.zip qs).take i).map fun p => V.bl (decide (p.1 ∈ p.2)))) := by rw [upd_ne nTD.symm]; exact g3
      refine pair_in upd_same ?_
      refine ⟨rfl, ?_⟩
      generalize upd H3 T (.tup [.str (pl d), .str (wd q1)]) = H4 at *
      simp only [tYes, if_true]
      walk_at "1"
      have mq := hc q1 (List.mem_of_getElem? hq)
      have md := h3 d (List.mem_of_getElem? hd)
      refine ⟨_, rfl, _, rfl, ?_⟩
      show ∃ acc, H4 D = some (.lst acc) ∧ acc.length < sizeLine ∧ _
      have ld := (List.getElem?_eq_some_iff.mp hd).1
      refine ⟨_, g4, ?_, Off.trans o4 off_upd, ?_⟩
      · rw [List.length_map, List.length_take, List.length_zip]
        exact Nat.lt_of_le_of_lt (show _ ≤ 60 by omega) (by decide)
      · have ez : (ds.zip qs)[i]? = some (d, q1) := by
          rw [List.getElem?_zip_eq_some]
          exact ⟨hd, hq⟩
        have lz := (List.getElem?_eq_some_iff.mp ez).1
        rw [upd_same, List.take_succ_eq_append_getElem lz, List.map_append, (List.getElem?_eq_some_iff.mp ez).2]
        have := occ_in md mq
        (simp only [Bool.false_eq_true, if_false])
        rw [this]
        rfl
    · rintro H3 ⟨o3, g3⟩
      have el : min (strL (wd ds)).length (qs.map fun q => V.str (wd q)).length = (ds.zip qs).length := by rw [strL_wd, List.length_map, List.length_map, List.length_zip]
      rw [el, List.take_length] at g3
      refine ⟨D, (ds.zip qs).map fun p => decide (p.1 ∈ p.2), rfl, .inl (.inl (by rw [g3, List.map_map]; rfl)), ?_⟩
      have := q H3 (o3.same nD)
      unfold fitsB at this
      rw [List.all_map]
      exact this
include F P in
theorem read_how_many_fit (h : sp_how_many_fit K vs H Q E) : t_how_many_fit K E { nx := fun _ H' => Q .non H', rt := Q } (start ["yard", "pattern", "many", "places"] vs) H := by
  match vs, h with
  | [y, p], h =>
    unfold t_how_many_fit
    walk_at "s"
    walk_at "1"
    refine chk_pt h fun a rows qs ea hy hp g H1 s1 => ?_
    subst ea
    have few : rows.length ≤ 60 := by
      obtain ⟨_, _, _, _, _, _, h4, _⟩ := hy
      exact h4
    obtain ⟨l, rfl, hs, hn, hc⟩ := hp.same s1
    walk_at "s"
    walk_at "1"
    walk_at "s"
    refine tFor_seqA hs (tVar_eq rfl) fun J G Pl hG => ?_
    refine for_plain Pl (fun R r => r) (fun i τ H' => Same H1 H' ∧ ∃ x3, τ = [some (.ref a), some (.ref l), some (.int (prodL (qs.take i))), x3]) ⟨Same.refl _, _, rfl⟩ (fun i τ H' z => hG _ z.1) ?_ ?_
    · rintro i x τ H2 hx ⟨s2, x3, rfl⟩
      rw [List.getElem?_map] at hx
      obtain ⟨q1, hq, rfl⟩ := Option.map_eq_some_iff.mp hx
      have mq := chN_ok (hc q1 (List.mem_of_getElem? hq))
      simp only [gName, List.set_cons_zero, List.set_cons_succ]
      walk_at "1"
      refine ⟨by rw [wd_length]; exact Nat.le_trans mq.2.2 (by decide), ?_⟩
      walk_at "1"
      rw [wd_length]
      refine ⟨.inr (by omega), s2, _, by rw [prodL_snoc hq]⟩
    · rintro τ H2 ⟨s2, x3, rfl⟩
      rw [List.length_map, List.take_length]
      walk_at "1"
      exact g H2 (s1.trans s2)
include F P in
theorem read_cost_to (h : sp_cost_to K vs H Q E) : t_cost_to K E { nx := fun _ H' => Q .non H', rt := Q } (start ["yard", "start", "pattern"] vs) H := by
  match vs, h with
  | [y, x, p], h =>
    unfold t_cost_to
    walk_at "s"
    walk_at "1"
    refine chk_arr3 h fun a rows ds ea hy _ g H1 s1 => ?_
    subst ea
    walk_at "s"
    walk_at "1"
    exact chk_pt (k := fun _ _ => False) (yardOr_of F (hy.same s1) (.inl (g.same s1))) fun _ _ _ _ _ _ z => z.elim
include F P in
theorem read_nearest (h : sp_nearest K vs H Q E) : t_nearest K E { nx := fun _ H' => Q .non H', rt := Q } (start ["yard", "start", "pattern"] vs) H := by
  match vs, h with
  | [y, x, p], h =>
    unfold t_nearest
    walk_at "s"
    walk_at "1"
    refine chk_arr3 h fun a rows ds ea hy _ g H1 s1 => ?_
    subst ea
    walk_at "s"
    walk_at "1"
    exact chk_pt (k := fun _ _ => False) (yardOr_of F (hy.same s1) (.inl (g.same s1))) fun _ _ _ _ _ _ z => z.elim
include F P in
theorem read_how_many_nearest (h : sp_how_many_nearest K vs H Q E) : t_how_many_nearest K E { nx := fun _ H' => Q .non H', rt := Q } (start ["yard", "start", "pattern", "reckoning", "found"] vs) H := by
  match vs, h with
  | [y, x, p], h =>
    unfold t_how_many_nearest
    walk_at "s"
    walk_at "1"
    refine chk_arr3 h fun a rows ds ea hy _ g H1 s1 => ?_
    subst ea
    walk_at "s"
    walk_at "1"
    exact chk_pt (k := fun _ _ => False) (yardOr_of F (hy.same s1) (.inl (g.same s1))) fun _ _ _ _ _ _ z => z.elim
include F P in
theorem read_cost_from (h : sp_cost_from K vs H Q E) : t_cost_from K E { nx := fun _ H' => Q .non H', rt := Q } (start ["yard", "pattern", "goal"] vs) H := by
  match vs, h with
  | [y, p, x], h =>
    unfold t_cost_from
    walk_at "s"
    walk_at "1"
    refine chk_pt h fun a rows ds ea hy _ g H1 s1 => ?_
    subst ea
    walk_at "s"
    walk_at "1"
    exact chk_arr3 (k := fun _ _ => False) (yardOr_of F (hy.same s1) (.inl (g.same s1))) fun _ _ _ _ _ _ z => z.elim
include F P in
theorem read_nearest_start (h : sp_nearest_start K vs H Q E) : t_nearest_start K E { nx := fun _ H' => Q .non H', rt := Q } (start ["yard", "pattern", "goal"] vs) H := by
  match vs, h with
  | [y, p, x], h =>
    unfold t_nearest_start
    walk_at "s"
    walk_at "1"
    refine chk_pt h fun a rows ds ea hy _ g H1 s1 => ?_
    subst ea
    walk_at "s"
    walk_at "1"
    exact chk_arr3 (k := fun _ _ => False) (yardOr_of F (hy.same s1) (.inl (g.same s1))) fun _ _ _ _ _ _ z => z.elim
include F P in
theorem read_cost_between (h : sp_cost_between K vs H Q E) : t_cost_between K E { nx := fun _ H' => Q .non H', rt := Q } (start ["yard", "starts", "goals"] vs) H := by
  match vs, h with
  | [y, p, q], h =>
    unfold t_cost_between
    walk_at "s"
    walk_at "1"
    refine chk_pt h fun a rows ds ea hy _ g H1 s1 => ?_
    subst ea
    walk_at "s"
    walk_at "1"
    exact chk_pt (k := fun _ _ => False) (yardOr_of F (hy.same s1) (.inl (g.same s1))) fun _ _ _ _ _ _ z => z.elim
include F P in
theorem read_pair_between (h : sp_pair_between K vs H Q E) : t_pair_between K E { nx := fun _ H' => Q .non H', rt := Q } (start ["yard", "starts", "goals", "reckoning", "apart", "both", "shared", "here", "there", "first", "last", "ahead", "behind"] vs) H := by
  match vs, h with
  | [y, p, q], h =>
    unfold t_pair_between
    walk_at "s"
    walk_at "1"
    refine chk_pt h fun a rows ds ea hy _ g H1 s1 => ?_
    subst ea
    walk_at "s"
    walk_at "1"
    exact chk_pt (k := fun _ _ => False) (yardOr_of F (hy.same s1) (.inl (g.same s1))) fun _ _ _ _ _ _ z => z.elim
end
end U
namespace U
open PySem PySem.Spec PyProof.Rows L2

/-! ### a dict comprehension over what does not change -/
theorem dc_plain {J : It} {G : Hp → Prop} {xs : List V} (P : Plain J xs G) {g : TG} {tt : TT} {tk tv : TE} {vs : List Nat} {σ : L2.St} {H1 : Hp} {D : Addr} {Qd : Hp → Prop} (Pv : Nat → Hp → Prop) (h0 : Pv 0 (upd H1 D (.dK []))) (hG : ∀ i H, Pv i H → G H)
    (hs : ∀ i x H, xs[i]? = some x → Pv i H → g x (wipe σ vs) H fun ρ H2 => wipe ρ vs = wipe σ vs ∧ tt ρ H2 fun b H3 =>
      if b = true then tk ρ H3 fun u H4 => tv ρ H4 fun z H5 => ∃ kvs k, u = kV k ∧ H5 D = some (.dK kvs) ∧ kvs.length < sizeLine ∧ Pv (i + 1) (upd H5 D (.dK (putK kvs k z))) else Pv (i + 1) H3)
    (hd : ∀ H, Pv xs.length H → Qd H) : DcB J g tt tk tv vs σ H1 D Qd := by
  refine ⟨fun i m H => m = xs.length - i ∧ (i ≤ xs.length ∧ Pv i H), ⟨_, rfl, Nat.zero_le _, h0⟩, ?_⟩
  rintro i m H ⟨rfl, hi, p⟩
  by_cases lt : i < xs.length
  · refine .inr ⟨P.go i H (hG i H p) lt, Pv (i + 1), fun H' p' => ⟨xs.length - (i + 1), by omega, rfl, lt, p'⟩, fun x H' yd => ?_⟩
    obtain ⟨rfl, hx⟩ := P.yld i H x H' (hG i H p) yd
    exact hs i x H' (hx lt) p
  · (have e : i = xs.length := by omega)
    subst e
    exact .inl ⟨P.stop _ H (hG _ H p) rfl, hd H p⟩
theorem tDc_seqT {K : PySem.W.Frag} {H : Hp} {t : TE} {g : TG} {tt : TT} {tk tv : TE} {vs : List Nat} {σ : L2.St} {Q : VK} {p : Addr} {xs : List V} (h : SqT K H p xs) (ht : ∀ Q : VK, t σ H Q = Q (.ref p) H)
    (hc : ∀ D, H D = none → DcB (Itt K p) g tt tk tv vs σ H D (Q (.ref D))) : tDc (iSeq K t) g tt tk tv vs σ H Q := by
  refine .inr ?_
  show t σ H _
  rw [ht]
  exact ⟨p, rfl, ⟨xs, h⟩, hc⟩
/-! ### promises of seven arguments -/
def sp7 (f : V → V → V → V → V → V → V → Hp → VK → XK → Prop) : Sp := fun vs H Q E => match vs with
  | [a, b, c, d, e, g, h] => f a b c d e g h H Q E
  | _ => False
theorem sp7_len {f : V → V → V → V → V → V → V → Hp → VK → XK → Prop} {a b c d e g h : Str} : ∀ vs H Q E, sp7 f vs H Q E → vs.length = ([a, b, c, d, e, g, h] : List Str).length := fun vs H Q E z => match vs, z with
  | [_, _, _, _, _, _, _], _ => rfl
/-! ### what it costs to bring crates home -/
def Cs (H : Hp) (p : Addr) (c : Nat → Int) : Prop := H p = some (.dK [(.inr "a", .int (c 0)), (.inr "b", .int (c 1)), (.inr "c", .int (c 2))])
def setC (c : Nat → Int) (i : Nat) (v : Int) (k : Nat) : Int := if k = i then v else c k
theorem cs_get {H : Hp} {p : Addr} {c : Nat → Int} {i : Nat} (h : Cs H p c) (hi : i < 3) : DGet H p (.str (pl i)) (some (.int (c i))) := by
  match i, hi with
  | 0, _ => exact DGet.k (k := .inr "a") h
  | 1, _ => exact DGet.k (k := .inr "b") h
  | 2, _ => exact DGet.k (k := .inr "c") h
theorem cs_put {H : Hp} {p : Addr} {c : Nat → Int} {i : Nat} {v : Int} (h : Cs H p c) (hi : i < 3) : ∃ H', DPut H p (.str (pl i)) (.int v) H' ∧ Off p H H' ∧ Cs H' p (setC c i v) := by
  match i, hi with
  | 0, _ => exact ⟨_, DPut.k (k := .inr "a") h (by show 3 < _; decide), off_upd, upd_same⟩
  | 1, _ => exact ⟨_, DPut.k (k := .inr "b") h (by show 3 < _; decide), off_upd, upd_same⟩
  | 2, _ => exact ⟨_, DPut.k (k := .inr "c") h (by show 3 < _; decide), off_upd, upd_same⟩
def zero3 : Nat → Int := fun _ => 0
/-- crate from i to j; f, D: its prices and the costs of its rest; u: of its rest, to the towers; z: what was paid -/
def bringQ (f D : Nat → Nat → Int) (u : Nat → Int) (i j : Nat) (z : Int) (c : Nat → Int) : Nat → Int :=
  if i = j then setC c i (min (c i) z) else setC (setC c (3 - i - j) (min (c (3 - i - j)) (z + bl1 f u zero3 i j))) i (min (c i) (z + bl2 f D u zero3 i j))
def sp__bring_home (K : PySem.W.Frag) : Sp := sp7 fun r cs x y k t z H Q _ => ∃ a B qs p c i es m pt u w, r = .ref a ∧ RkN K H a B qs ∧ cs = .ref p ∧ Cs H p c ∧ x = .str (pl i) ∧ i < 3 ∧ y = .str (wd es) ∧ D3 es ∧ es.length = qs.length ∧ k = .int (m : Nat) ∧ m < es.length ∧
  t = .ref pt ∧ SqT K H pt (iV (three u)) ∧ z = .int w ∧ ∀ H', Off p H H' → Cs H' p (bringQ (fnOf ((qs[es.length - 1 - m]?).getD [])) (levelQ qs (es.length - 1 - m)) u i ((es[m]?).getD 0) w c) → Q .non H'
def t__bring_home (K : PySem.W.Frag) (E : XK) : TS := (tSeq (tAsg (tOp (uIx K) (tVar 3) (tVar 4)) (gName 7)) (tSeq (tIfS (tTest (tOp (uEq K) (tVar 2) (tVar 7))) (tSeq (tAsg (tCB uMin2 (tCons (tDGet (tVar 1) (tVar 2)) (tCons (tVar 6) tNil))) (gSub (tVar 1) (tVar 2) rSetD)) tRetN) tNext) (tSeq (tAsg (tOp uSub (tOp uSub (tCB (uLen K) (tCons (tVar 3) tNil)) (tC (.int 1))) (tVar 4)) (gName 8)) (tSeq (tAsg (tFn (sp_both_lines K) E (tCons (tOp uAdd (tVar 2) (tVar 7)) (tCons (tOp (uIx K) (tFld K (tVar 0) "prices") (tVar 8)) (tCons (tOp (uIx K) (tFld K (tVar 0) "towers") (tVar 8)) (tCons (tVar 5) (tCons (tTup (tCons (tC (.int 0)) (tCons (tC (.int 0)) (tCons (tC (.int 0)) tNil)))) tNil)))))) (gTup K 2 (gCons (gName 9) (gCons (gName 10) gNil)))) (tSeq (tAsg (tFn (sp_third K) E (tCons (tOp uAdd (tVar 2) (tVar 7)) tNil)) (gName 11)) (tSeq (tAsg (tCB uMin2 (tCons (tDGet (tVar 1) (tVar 11)) (tCons (tOp uAdd (tVar 6) (tVar 9)) tNil))) (gSub (tVar 1) (tVar 11) rSetD)) (tAsg (tCB uMin2 (tCons (tDGet (tVar 1) (tVar 2)) (tCons (tOp uAdd (tVar 6) (tVar 10)) tNil))) (gSub (tVar 1) (tVar 2) rSetD))))))))
section
variable {K : PySem.W.Frag} (F : KF K) (R : KR K) {vs : List V} {H : Hp} {Q : VK} {E : XK}
local macro_rules | `(tactic| walk_at "w") => `(tactic| try simp only [turnE, lcT, Snoc, tRet, tRetN, tAndV, tOrV, tNotV, tCB, tCons, tVar, tNil, tC, tOp, tSeq, tAsg, gName, gSub, tIfS, tDrop, tFn, tTup, tLst, tNext, tB, tTest, tNot, tAnd, tOr, tIf, tChain, tUn, rU, tFld, tPart, tNoPart, L2.tSl, tBM, tPar, tPar3, tTruth, tDNewK,
  L2.start, List.map_cons, List.map_nil, List.length_cons, List.length_nil, List.replicate_succ, List.replicate_zero, List.append_nil, List.nil_append, List.cons_append, List.singleton_append, Nat.sub_self, Nat.zero_add, Nat.reduceAdd, Nat.reduceSub,
  List.getElem?_cons_zero, List.getElem?_cons_succ, List.set_cons_zero, List.set_cons_succ, Option.some.injEq, exists_eq_left, exists_eq_left', V.int.injEq, V.bl.injEq, V.str.injEq, V.ref.injEq,
  uAdd_int, uAdd_str, uSub_int, uMul_int, uMul_str, uDiv_int, uMod_int, uPow_int, uLt_int, uLe_int, uGt_int, uGe_int, uIs_non, uNis_non, uIs_bl, uNis_bl, sp1, sp2, sp3, sp4, uEq_int, uEq_str, uNe_int, uNe_str, uSl_str, uLen_str, decide_eq_true_eq])
local macro_rules | `(tactic| walk_at "1") => `(tactic| try simp only [turnE, lcT, Snoc, tRet, tRetN, tAndV, tOrV, tNotV, tCB, tCons, tVar, tNil, tC, tOp, tAsg, gName, gSub, tIfS, tDrop, tFn, tTup, tLst, tNext, tB, tTest, tNot, tAnd, tOr, tIf, tChain, tUn, rU, tFld, tPart, tNoPart, L2.tSl, tBM, tPar, tPar3, tTruth, tDNewK,
  L2.start, List.map_cons, List.map_nil, List.length_cons, List.length_nil, List.replicate_succ, List.replicate_zero, List.append_nil, List.nil_append, List.cons_append, List.singleton_append, Nat.sub_self, Nat.zero_add, Nat.reduceAdd, Nat.reduceSub,
  List.getElem?_cons_zero, List.getElem?_cons_succ, List.set_cons_zero, List.set_cons_succ, Option.some.injEq, exists_eq_left, exists_eq_left', V.int.injEq, V.bl.injEq, V.str.injEq, V.ref.injEq,
  uAdd_int, uAdd_str, uSub_int, uMul_int, uMul_str, uDiv_int, uMod_int, uPow_int, uLt_int, uLe_int, uGt_int, uGe_int, uIs_non, uNis_non, uIs_bl, uNis_bl, sp1, sp2, sp3, sp4, uEq_int, uEq_str, uNe_int, uNe_str, uSl_str, uLen_str, decide_eq_true_eq])
local macro_rules | `(tactic| walk_at "s") => `(tactic| ((try dsimp only [turnE]); with_reducible refine seq_ ?_))

include F R in
theorem read__bring_home (h : sp__bring_home K vs H Q E) : t__bring_home K E { nx := fun _ H' => Q .non H', rt := Q } (start ["reckoning", "costs", "here", "goal", "crate", "to_towers", "ahead", "there", "rest", "straight", "turning", "over"] vs) H := by
  match vs, h with
  | [_, _, _, _, _, _, _], ⟨a, B, qs, p, c, i, es, m, pt, u, w, rfl, hk, rfl, hc, rfl, hi, rfl, d3, le, rfl, lm, rfl, ht, rfl, q⟩ =>
    obtain ⟨lp, lt, ⟨dx, bk, ga⟩, ⟨bs, b1, b2, b3⟩, ⟨ts, c1, c2, c3⟩, h6, h60⟩ := id hk
    have he : es[m]? = some es[m] := List.getElem?_eq_getElem lm
    have elt : es[m] < 3 := d3 _ (List.getElem_mem lm)
    rw [he, Option.getD_some] at q
    generalize es[m] = j at *
    unfold t__bring_home
    walk_at "s"
    walk_at "1"
    refine str_one (by omega) he ?_
    rw [wd_pl]
    walk_at "s"
    walk_at "1"
    by_cases e : i = j
    · subst e
      rw [if_pos rfl]
      walk_at "s"
      walk_at "1"
      refine ⟨_, rfl, _, rfl, p, _, rfl, cs_get hc hi, ?_⟩
      refine ⟨_, _, rfl, ?_⟩
      rw [min_int]
      obtain ⟨H1, dp, o1, k1⟩ := cs_put (v := min (c i) w) hc hi
      refine ⟨p, H1, rfl, dp, ?_⟩
      walk_at "1"
      refine q H1 o1 ?_
      unfold bringQ
      rw [if_pos rfl]
      exact k1
    · rw [if_neg (by intro z; exact e (pl_inj z))]
      obtain ⟨r, hr⟩ : ∃ r, r = es.length - 1 - m := ⟨_, rfl⟩
      rw [← hr] at q
      have lr : r < qs.length := by omega
      have hq : qs[r]? = some qs[r] := List.getElem?_eq_getElem lr
      rw [hq, Option.getD_some] at q
      have q6 : qs[r].length = 6 := h6 _ (List.getElem_mem lr)
      have hb : bs[r]? = some (bs[r]'(by omega)) := List.getElem?_eq_getElem _
      have lts : ts.length = qs.length + 1 := by
        rw [c2]
        unfold towersL
        (rw [List.length_map, List.length_range])
      have htt : ts[r]? = some (ts[r]'(by omega)) := List.getElem?_eq_getElem _
      have sb := b3 r _ _ hb hq
      have stt := c3 r _ (six (levelQ qs r)) htt (by
        unfold towersL
        rw [List.getElem?_map, List.getElem?_range (by omega)]
        rfl)
      generalize bs[r]'(by omega) = b at *
      generalize ts[r]'(by omega) = t at *
      generalize qs[r] = v at *
      walk_at "s"
      walk_at "1"
      refine ⟨by rw [wd_length, sizeLine_eq]; omega, ?_⟩
      walk_at "1"
      rw [wd_length, show (es.length : Int) - 1 - (m : Int) = (r : Nat) by omega]
      walk_at "s"
      walk_at "1"
      refine ⟨by show 1 + 1 ≤ sizeLine; decide, ?_⟩
      refine ⟨a, _, dx, _, .ref lp, rfl, ga, R.cl, R.prices, rfl, _, _, .inl (.inl (.inl b1)), at_nat (by rw [List.getElem?_map, hb]; rfl), ?_⟩
      refine ⟨a, _, dx, _, .ref lt, rfl, ga, R.cl, R.towers, rfl, _, _, .inl (.inl (.inl c1)), at_nat (by rw [List.getElem?_map, htt]; rfl), ?_⟩
      refine ⟨by decide, fun z nz => ?_⟩
      have s1 : Same H (upd H z (.tup [.int 0, .int 0, .int 0])) := same_new nz
      have gz : upd H z (.tup [.int 0, .int 0, .int 0]) z = some (.tup (iV (three zero3))) := upd_same
      generalize upd H z (.tup [.int 0, .int 0, .int 0]) = H1 at *
      have ew : pl i ++ pl j = wd [i, j] := by rw [← wd_pl, ← wd_pl, wd_app]; rfl
      refine ⟨i, j, b, t, pt, z, fnOf v, levelQ qs r, u, zero3, by rw [ew], hi, elt, e, rfl, rfl, rfl, rfl, by rw [six_fn q6]; exact Same.sqT s1 sb, Same.sqT s1 stt, Same.sqT s1 ht, .inl (.inl gz), fun o H2 s2 no go => ?_⟩
      refine ⟨o, _, rfl, .inl (.inl go), rfl, un1 (un1 (un0 ?_))⟩
      simp only [List.set_cons_zero, List.set_cons_succ]
      walk_at "s"
      walk_at "1"
      refine ⟨by show 1 + 1 ≤ sizeLine; decide, ?_⟩
      rw [ew]
      refine ⟨.str, is_str _, fun z => ?_, fun a' b' ha' hb' nab eq => ?_⟩
      · rw [(isWy_wd hi elt e).1] at z
        cases z
      · injection eq with eq
        have eq := wd_inj eq
        simp only [List.cons.injEq, and_true] at eq
        obtain ⟨rfl, rfl⟩ := eq
        have s02 := s1.trans s2
        have hc2 : Cs H2 p c := s02 _ _ hc
        have lo : 3 - i - j < 3 := by omega
        walk_at "s"
        walk_at "1"
        refine ⟨_, rfl, _, rfl, p, _, rfl, cs_get hc2 lo, ?_⟩
        walk_at "1"
        refine ⟨_, _, rfl, ?_⟩
        rw [min_int]
        obtain ⟨H3, dp, o3, k3⟩ := cs_put (v := min (c (3 - i - j)) (w + bl1 (fnOf v) u zero3 i j)) hc2 lo
        refine ⟨p, H3, rfl, dp, ?_⟩
        walk_at "1"
        refine ⟨_, rfl, _, rfl, p, _, rfl, cs_get k3 hi, ?_⟩
        walk_at "1"
        refine ⟨_, _, rfl, ?_⟩
        rw [min_int]
        have ec : setC c (3 - i - j) (min (c (3 - i - j)) (w + bl1 (fnOf v) u zero3 i j)) i = c i := by
          unfold setC
          rw [if_neg (by omega)]
        rw [ec]
        obtain ⟨H4, dp4, o4, k4⟩ := cs_put (v := min (c i) (w + bl2 (fnOf v) (levelQ qs r) u zero3 i j)) k3 hi
        refine ⟨p, H4, rfl, dp4, ?_⟩
        refine q H4 (Off.trans (Same.off s02) (o3.trans o4)) ?_
        unfold bringQ
        rw [if_neg e]
        exact k4
end
end U
namespace U
open PySem PySem.Spec PyProof.Rows L2

/-! ### home_costs -/
def qsOf (g : Int) (rows : List (List (Option Int))) : List (List Int) := rows.reverse.map (rowI (g * 4 ^ rows.length))
def homeStep (f D : Nat → Nat → Int) (e : Nat) (ah : Nat → Int) (B : Int) : Nat → (Nat → Int)
  | 0 => fun _ => B
  | p + 1 => bringQ f D (dd D p) p e (ah p) (homeStep f D e ah B p)
/-- behind the crates up to a + m; a is the largest one that is not at home -/
def homeC (B : Int) (qs : List (List Int)) (ds es : List Nat) (a : Nat) : Nat → (Nat → Int)
  | 0 => bringQ (fnOf ((qs[es.length - 1 - a]?).getD [])) (levelQ qs (es.length - 1 - a)) (toQ qs (ds.drop (a + 1)).reverse (es.length - 1 - a)) ((ds[a]?).getD 0) ((es[a]?).getD 0) 0 fun _ => B
  | m + 1 => homeStep (fnOf ((qs[es.length - 1 - (a + m + 1)]?).getD [])) (levelQ qs (es.length - 1 - (a + m + 1))) ((es[a + m + 1]?).getD 0) (homeC B qs ds es a m) B 3
def min3 (c : Nat → Int) : Int := min (min (c 0) (c 1)) (c 2)
def homeL (B : Int) (qs : List (List Int)) (ds es : List Nat) : List Int := match firstA ds es with
  | none => List.replicate (es.length + 1) 0
  | some a => List.replicate (a + 1) 0 ++ (List.range (es.length - a)).map fun m => min3 (homeC B qs ds es a m)
def homeT (g : Int) (rows : List (List (Option Int))) (ds es : List Nat) : List (Option Int) := (homeL (g * 4 ^ rows.length) (qsOf g rows) ds es).map (toldV (g * 4 ^ rows.length))
def sp_home_costs (K : PySem.W.Frag) : Sp := sp3 fun y x z H Q E => RefB K H y x z E ∨ ∃ p rows ds es, y = .ref p ∧ YdK K H p rows ∧ Arr rows.length x ds ∧ Arr rows.length z es ∧
  ∀ g l H1 H', Great rows g → Mild K p H H1 → YdK K H1 p rows → Same H1 H' → H1 l = none → H' l = some (.lst ((homeT g rows ds es).map pV)) → Q (.ref l) H'
def t_home_costs (K : PySem.W.Frag) (E : XK) : TS := (tSeq (tDrop (tFn (sp_check_both K) E (tCons (tVar 0) (tCons (tVar 1) (tCons (tVar 2) tNil))))) (tSeq (tAsg (tMeth (He.ga K "Yard") "reckoning" (sp_Yard_reckoning K) [] E (tVar 0) tNil) (gName 3)) (tSeq (tAsg (tFn (sp_first_apart K) E (tCons (tVar 1) (tCons (tVar 2) tNil))) (gName 4)) (tSeq (tIfS (tTest (tOp uIs (tVar 4) (tC .non))) (tRet (tOp uMul (tLst (tCons (tC (.int 0)) tNil)) (tOp uAdd (tCB (rLenO (He.ga K "Yard") (sp_Yard_len K)) (tCons (tVar 0) tNil)) (tC (.int 1))))) tNext) (tSeq (tAsg (tOp (uIx K) (tMeth (He.ga K "Reckoning") "to_towers" (sp_Reckoning_to_towers K) [] E (tVar 3) (tCons (tSl (uSl K) (tVar 1) (tPart (tOp uAdd (tVar 4) (tC (.int 1)))) tNoPart) tNil)) (tUn (rU fun i => .int (-i)) (tC (.int 1)))) (gName 5)) (tSeq (tAsg (tDc (iSeq K (tC (.ref (He.ga K "PLACES")))) (gName 6) tYes (tVar 6) (tFld K (tVar 3) "bound") [6]) (gName 7)) (tSeq (tDrop (tFn (sp__bring_home K) E (tCons (tVar 3) (tCons (tVar 7) (tCons (tOp (uIx K) (tVar 1) (tVar 4)) (tCons (tVar 2) (tCons (tVar 4) (tCons (tVar 5) (tCons (tC (.int 0)) tNil))))))))) (tSeq (tAsg (tOp uAdd (tOp uMul (tLst (tCons (tC (.int 0)) tNil)) (tOp uAdd (tVar 4) (tC (.int 1)))) (tLst (tCons (tCB (rMin K) (tCons (tListVals (tVar 7)) tNil)) tNil))) (gName 8)) (tSeq (tFor (iRng2 (tCons (tOp uAdd (tVar 4) (tC (.int 1))) (tCons (tCB (rLenO (He.ga K "Yard") (sp_Yard_len K)) (tCons (tVar 0) tNil)) tNil))) (gName 9) (tSeq (tAsg (tVar 7) (gName 10)) (tSeq (tAsg (tDc (iSeq K (tC (.ref (He.ga K "PLACES")))) (gName 6) tYes (tVar 6) (tFld K (tVar 3) "bound") [6]) (gName 7)) (tSeq (tAsg (tFn (sp_from_each_tower K) E (tCons (tOp (uIx K) (tFld K (tVar 3) "towers") (tOp uSub (tOp uSub (tCB (rLenO (He.ga K "Yard") (sp_Yard_len K)) (tCons (tVar 0) tNil)) (tC (.int 1))) (tVar 9))) tNil)) (gName 11)) (tSeq (tFor (iSeq K (tC (.ref (He.ga K "PLACES")))) (gName 6) (tDrop (tFn (sp__bring_home K) E (tCons (tVar 3) (tCons (tVar 7) (tCons (tVar 6) (tCons (tVar 2) (tCons (tVar 9) (tCons (tDGet (tVar 11) (tVar 6)) (tCons (tDGet (tVar 10) (tVar 6)) tNil)))))))))) (tDrop (tBM K "list" rAppend (tVar 8) (tCons (tCB (rMin K) (tCons (tListVals (tVar 7)) tNil)) tNil)))))))) (tRet (tLc (iSeq K (tVar 8)) (gName 12) tYes (tMeth (He.ga K "Reckoning") "told" (sp_Reckoning_told K) [] E0 (tVar 3) (tCons (tVar 12) tNil)) [12])))))))))))
section
variable {K : PySem.W.Frag} (F : KF K) (R : KR K) {vs : List V} {H : Hp} {Q : VK} {E : XK}
local macro_rules | `(tactic| walk_at "w") => `(tactic| try simp only [turnE, lcT, Snoc, tRet, tRetN, tAndV, tOrV, tNotV, tCB, tCons, tVar, tNil, tC, tOp, tSeq, tAsg, gName, gSub, tIfS, tDrop, tFn, tTup, tLst, tNext, tB, tTest, tNot, tAnd, tOr, tIf, tChain, tUn, rU, tFld, tPart, tNoPart, L2.tSl, tBM, tPar, tPar3, tTruth, tDNewK,
  L2.start, List.map_cons, List.map_nil, List.length_cons, List.length_nil, List.replicate_succ, List.replicate_zero, List.append_nil, List.nil_append, List.cons_append, List.singleton_append, Nat.sub_self, Nat.zero_add, Nat.reduceAdd, Nat.reduceSub,
  List.getElem?_cons_zero, List.getElem?_cons_succ, List.set_cons_zero, List.set_cons_succ, Option.some.injEq, exists_eq_left, exists_eq_left', V.int.injEq, V.bl.injEq, V.str.injEq, V.ref.injEq,
  uAdd_int, uAdd_str, uSub_int, uMul_int, uMul_str, uDiv_int, uMod_int, uPow_int, uLt_int, uLe_int, uGt_int, uGe_int, uIs_non, uNis_non, uIs_bl, uNis_bl, sp1, sp2, sp3, sp4, uEq_int, uEq_str, uNe_int, uNe_str, uSl_str, uLen_str, decide_eq_true_eq])
local macro_rules | `(tactic| walk_at "1") => `(tactic| try simp only [turnE, lcT, Snoc, tRet, tRetN, tAndV, tOrV, tNotV, tCB, tCons, tVar, tNil, tC, tOp, tAsg, gName, gSub, tIfS, tDrop, tFn, tTup, tLst, tNext, tB, tTest, tNot, tAnd, tOr, tIf, tChain, tUn, rU, tFld, tPart, tNoPart, L2.tSl, tBM, tPar, tPar3, tTruth, tDNewK,
  L2.start, List.map_cons, List.map_nil, List.length_cons, List.length_nil, List.replicate_succ, List.replicate_zero, List.append_nil, List.nil_append, List.cons_append, List.singleton_append, Nat.sub_self, Nat.zero_add, Nat.reduceAdd, Nat.reduceSub,
  List.getElem?_cons_zero, List.getElem?_cons_succ, List.set_cons_zero, List.set_cons_succ, Option.some.injEq, exists_eq_left, exists_eq_left', V.int.injEq, V.bl.injEq, V.str.injEq, V.ref.injEq,
  uAdd_int, uAdd_str, uSub_int, uMul_int, uMul_str, uDiv_int, uMod_int, uPow_int, uLt_int, uLe_int, uGt_int, uGe_int, uIs_non, uNis_non, uIs_bl, uNis_bl, sp1, sp2, sp3, sp4, uEq_int, uEq_str, uNe_int, uNe_str, uSl_str, uLen_str, decide_eq_true_eq])
local macro_rules | `(tactic| walk_at "s") => `(tactic| ((try dsimp only [turnE]); with_reducible refine seq_ ?_))

theorem RkO.m {a : Addr} {rows : List (List (Option Int))} (h60 : rows.length ≤ 60) (h6 : ∀ r ∈ rows, r.length = 6) (h : RkO K H a rows) : ∃ g, Great rows g ∧ RkM K H a (g * 4 ^ rows.length) (qsOf g rows) := by
  obtain ⟨g, lp, lt, hg, ⟨dx, bk, ga, kb⟩, p1, p2⟩ := h
  refine ⟨g, hg, lp, lt, ⟨dx, bk, ga, kb⟩, p1, p2, by unfold qsOf; rw [List.length_map, List.length_reverse]; exact h60, fun q m => ?_⟩
  obtain ⟨r, mr, rfl⟩ := List.mem_map.mp m
  unfold rowI
  rw [List.length_map]
  exact h6 r (List.mem_reverse.mp mr)
theorem tFor_rng2 {t : TA} {g : TG} {tb : TS} {D : Ends} {σ : L2.St} {H : Hp} (h : t σ H fun vs H1 => ∃ i j : Int, vs = [.int i, .int j] ∧ (-(2 ^ 62) ≤ i ∧ i < 2 ^ 62 ∧ -(2 ^ 62) ≤ j ∧ j < 2 ^ 62) ∧ tFor (fun _ H' R => R (Itr i (j - i).toNat) H') g tb D σ H1) : tFor (iRng2 t) g tb D σ H := h
theorem laps_pl {J : It} {xs : List V} {G : Hp → Prop} (P : Plain J xs G) {g : TG} {tb : TS} {D : Ends} {σ : L2.St} {H : Hp} (Pv : Nat → L2.St → Hp → Prop) (h0 : Pv 0 σ H) (hG : ∀ i τ H', Pv i τ H' → G H')
    (hs : ∀ i x τ H, xs[i]? = some x → Pv i τ H → g x τ H fun ρ H2 => tb (turnE D (Pv (i + 1))) ρ H2) (hd : ∀ τ H, Pv xs.length τ H → D.nx τ H) : tFor (fun _ H' R => R J H') g tb D σ H :=
  for_plain P (wi := fun _ H' R => R J H') (fun R r => r) Pv h0 hG hs hd
theorem tFor_seqT' {t : TE} {g : TG} {tb : TS} {D : Ends} {σ : L2.St} {p : Addr} {xs : List V} (h : SqT K H p xs) (ht : ∀ Q : VK, t σ H Q = Q (.ref p) H) (hc : tFor (fun _ H' R => R (Itt K p) H') g tb D σ H) : tFor (iSeq K t) g tb D σ H := by
  refine .inr ?_
  show t σ H _
  rw [ht]
  exact ⟨p, rfl, ⟨_, h⟩, hc⟩
/-- a dict with one number for all three places -/
theorem same_costs {a dx : Addr} {B : Int} {lp lt bk : V} {σ : L2.St} (R : KR K) (F : KF K) (h3 : σ[3]? = some (some (.ref a))) (h6 : 6 < σ.length) (ga : H a = some (.ins (He.ga K "Reckoning") dx (rkF B lp lt bk)))
    (q : ∀ D H', Same H H' → H D = none → Cs H' D (fun _ => B) → Q (.ref D) H') : tDc (iSeq K (tC (.ref (He.ga K "PLACES")))) (gName 6) tYes (tVar 6) (tFld K (tVar 3) "bound") [6] σ H Q := by
  refine tDc_seqT (F.places H) (fun _ => rfl) fun D nD => ?_
  refine dc_plain plain_T (fun i H' => Off D H H' ∧ H' D = some (.dK (((["a", "b", "c"] : List Str).take i).map fun z => (.inr z, .int B)))) ⟨off_upd, upd_same⟩ (fun i H' z => F.places H') ?_ ?_
  · rintro i x H2 hx ⟨o2, g2⟩
    have ea : a ≠ D := by rintro rfl; rw [ga] at nD; cases nD
    have ga2 := o2 _ _ ea ga
    have step : ∀ z : Str, x = .str z → (["a", "b", "c"] : List Str)[i]? = some z → gName 6 x (wipe σ [6]) H2 fun ρ H3 => wipe ρ [6] = wipe σ [6] ∧ tYes ρ H3 fun b H3 => if b = true then tVar 6 ρ H3 fun u H4 => tFld K (tVar 3) "bound" ρ H4 fun z H5 => ∃ kvs k, u = kV k ∧ H5 D = some (.dK kvs) ∧ kvs.length < sizeLine ∧ (Off D H (upd H5 D (.dK (putK kvs k z))) ∧ (upd H5 D (.dK (putK kvs k z))) D = some (.dK (((["a", "b", "c"] : List Str).take (i + 1)).map fun z => (.inr z, .int B)))) else (Off D H H3 ∧ H3 D = some (.dK (((["a", "b", "c"] : List Str).take (i + 1)).map fun z => (.inr z, .int B)))) := by
      rintro z rfl ez
      refine ⟨by simp only [gName, wipe, List.set_set], ?_⟩
      simp only [tYes, if_true]
      refine ⟨.str z, by simp only [gName, wipe, List.set_set]; rw [List.getElem?_set_self h6], .ref a, by simp only [gName, wipe, List.set_set]; rw [List.getElem?_set_ne (by decide)]; exact h3, a, _, dx, _, .int B, rfl, ga2, R.cl, R.bound, rfl, _, .inr z, rfl, g2, ?_, Off.trans o2 off_upd, ?_⟩
      · rw [List.length_map, List.length_take]
        exact Nat.lt_of_le_of_lt (Nat.min_le_right _ _) (by decide)
      · rw [upd_same]
        match i, ez with
        | 0, ez => cases ez; rfl
        | 1, ez => cases ez; rfl
        | 2, ez => cases ez; rfl
    match i, hx with
    | 0, hx => cases hx; exact step _ rfl rfl
    | 1, hx => cases hx; exact step _ rfl rfl
    | 2, hx => cases hx; exact step _ rfl rfl
  · rintro H2 ⟨o2, g2⟩
    exact q D H2 (o2.same nD) nD g2
/-- the least one of the three -/
theorem least_three {p : Addr} {c : Nat → Int} {i : Nat} {σ : L2.St} (hi : σ[i]? = some (some (.ref p))) (hc : Cs H p c) (q : ∀ H', Same H H' → Q (.int (min3 c)) H') : tListVals (tVar i) σ H fun x H1 => rMin K [x] H1 Q := by
  refine ⟨.ref p, hi, p, _, rfl, hc, by show 3 ≤ 100000; decide, fun l nl => ?_⟩
  refine ⟨l, three c, rfl, .inl (.inl upd_same), by show 0 < 3; decide, fun m hm hle => ?_⟩
  have : m = min3 c := by
    have h0 := hle (c 0) (by simp [three])
    have h1 := hle (c 1) (by simp [three])
    have h2 := hle (c 2) (by simp [three])
    unfold min3
    simp only [three, List.mem_cons, List.not_mem_nil, or_false] at hm
    omega
  rw [this]
  exact q _ (same_new nl)
include F R in
theorem read_home_costs (h : sp_home_costs K vs H Q E) : t_home_costs K E { nx := fun _ H' => Q .non H', rt := Q } (start ["yard", "start", "goal", "reckoning", "apart", "to_towers", "place", "costs", "found", "crate", "ahead", "from_tower", "cost"] vs) H := by
  match vs, h with
  | [_, _, _], .inl h =>
    unfold t_home_costs
    walk_at "s"
    walk_at "1"
    exact h.chk
  | [_, _, _], .inr ⟨p, rows, ds, es, rfl, hy, h1, h2, q⟩ =>
    have h6 := len6_of hy.1
    have h60 : rows.length ≤ 60 := by
      obtain ⟨⟨_, _, _, _, _, _, y4, _⟩, _⟩ := hy
      exact y4
    unfold t_home_costs
    walk_at "s"
    walk_at "1"
    refine yardOr_of F hy.1 (.inr ⟨ds, h1, .inr ⟨es, h2, fun H1 s1 => ?_⟩⟩)
    have hy1 := hy.same s1
    obtain ⟨_, _, dx, t, rk, gy, _⟩ := id hy1
    obtain ⟨rfl, l1, d1⟩ := h1
    obtain ⟨rfl, l2, d2⟩ := h2
    walk_at "s"
    simp only [tMeth]
    walk_at "1"
    refine ⟨_, rfl, p, dx, _, rfl, gy, rfl, p, rows, rfl, hy1, fun a H2 o2 hy2 ra yr old sm => ?_⟩
    obtain ⟨g, hg, m2⟩ := ra.m h60 h6
    obtain ⟨lp, lt, ⟨da, bk, ga, kb⟩, _⟩ := id m2
    have lq : (qsOf g rows).length = rows.length := by unfold qsOf; rw [List.length_map, List.length_reverse]
    obtain ⟨_, _, _, gp, _⟩ := hy.2.2
    have md : Mild K p H H2 := (Mild.of_same gp s1).trans (mild_reck gy o2 yr old sm)
    have q : ∀ l H', Same H2 H' → H2 l = none → H' l = some (.lst ((homeT g rows ds es).map pV)) → Q (.ref l) H' := fun l H' s n e => q g l H2 H' hg md hy2 s n e
    clear h6 kb
    generalize hB : g * 4 ^ rows.length = B at *
    walk_at "s"
    walk_at "1"
    have n1 : 1 ≤ rows.length := by
      obtain ⟨⟨_, _, _, _, _, _, _, y5, _⟩, _⟩ := hy
      exact y5
    have Bp : 0 < B := by
      rw [← hB]
      exact Int.mul_pos hg.1 (Int.pow_pos (by decide))
    refine ⟨ds, es, rfl, rfl, d1, d2, by omega, by omega, fun H3 s3 => ?_⟩
    cases hf : firstA ds es with
    | none =>
      rw [show crV none = V.non from rfl]
      show tSeq _ _ _ _ _
      walk_at "s"
      walk_at "1"
      refine ⟨by decide, fun z nz => ?_⟩
      have s4 : Same H3 (upd H3 z (.lst [.int 0])) := same_new nz
      have gz : upd H3 z (.lst [.int 0]) z = some (.lst [.int 0]) := upd_same
      generalize upd H3 z (.lst [.int 0]) = H4 at *
      refine lenO_of ((hy2.1.same s3).same s4) ?_
      walk_at "1"
      refine ⟨z, _, _, rfl, rfl, gz, by omega, by omega, ?_, fun l nl => ?_⟩
      · rw [List.length_singleton, sizeLine_eq]
        omega
      · refine q l _ (s3.trans (s4.trans (same_new nl))) ((s3.trans s4).free nl) ?_
        rw [upd_same]
        congr 2
        unfold homeT homeL
        rw [hf, hB, List.map_replicate, List.map_replicate, show toldV B 0 = some 0 from if_pos Bp, List.flatten_replicate_singleton]
        congr 1
        omega
    | some k =>
      rw [show crV (some k) = V.int ((k : Nat) : Int) from rfl]
      obtain ⟨lk, ndk, _⟩ := firstA_lt hf
      have hd : ds[k]? = some ds[k] := List.getElem?_eq_getElem lk
      have dlt : ds[k] < 3 := d1 _ (List.getElem_mem lk)
      show tSeq _ _ _ _ _
      walk_at "s"
      walk_at "1"
      rw [if_neg (fun z => by cases z)]
      show tSeq _ _ _ _ _
      walk_at "s"
      walk_at "1"
      simp only [tMeth]
      walk_at "1"
      refine ⟨a, da, _, rfl, s3 _ _ ga, rfl, ?_⟩
      walk_at "1"
      rw [show ((k : Nat) : Int) + 1 = ((k + 1 : Nat) : Int) by omega]
      refine ⟨by rw [wd_length, sizeLine_eq]; omega, ?_⟩
      rw [cut_from (ds := ds) (k := k + 1) (by omega)]
      have m3 := m2.same s3
      refine ⟨a, B, qsOf g rows, ds.drop (k + 1), rfl, rfl, m3.n, fun x m => d1 x (List.mem_of_mem_drop m), by rw [List.length_drop]; omega, fun l cs H4 s4 gl lc at4 => ?_⟩
      obtain ⟨r, hr⟩ : ∃ r, r = es.length - 1 - k := ⟨_, rfl⟩
      have dl : (ds.drop (k + 1)).length = r := by rw [List.length_drop]; omega
      rw [dl] at lc
      have hcs : cs[r]? = some (cs[r]'(by omega)) := List.getElem?_eq_getElem _
      have u4 := at4 r _ hcs
      generalize cs[r]'(by omega) = c at *
      refine ⟨_, _, .inl (.inl (.inl gl)), at_end (n := r) (by rw [List.length_map, lc]) (by rw [List.getElem?_map, hcs]; rfl), ?_⟩
      walk_at "s"
      simp only [tAsg]
      have ga4 := s4 _ _ (s3 _ _ ga)
      refine same_costs R F (σ := [_, _, _, some (.ref a), _, _, _, _, _, _, _, _, _]) rfl (by show 6 < 13; decide) ga4 fun Dc H5 s5 nD gD => ?_
      show tSeq _ _ _ [some (.ref p), some (.str (wd ds)), some (.str (wd es)), some (.ref a), some (.int (k : Nat)), some (.ref c), none, some (.ref Dc), none, none, none, none, none] H5
      walk_at "s"
      walk_at "1"
      refine str_one (by omega) hd ?_
      have s25 := s3.trans (s4.trans s5)
      refine ⟨a, B, qsOf g rows, Dc, fun _ => B, ds[k], es, k, c, _, 0, rfl, (m2.same s25).n, rfl, gD, rfl, dlt, rfl, d2, by omega, rfl, by omega, rfl, Same.sqT s5 u4, rfl, fun H6 o6 g6 => ?_⟩
      have s26 : Same H2 H6 := (Off.trans (Same.off s25) o6).same ((s3.trans s4).free nD)
      have c0 : Cs H6 Dc (homeC B (qsOf g rows) ds es k 0) := by
        have : homeC B (qsOf g rows) ds es k 0 = bringQ (fnOf (((qsOf g rows)[es.length - 1 - k]?).getD [])) (levelQ (qsOf g rows) (es.length - 1 - k)) (toQ (qsOf g rows) (ds.drop (k + 1)).reverse (es.length - 1 - k)) ds[k] ((es[k]?).getD 0) 0 fun _ => B := by
          unfold homeC
          rw [hd, Option.getD_some]
        rw [this, ← hr]
        rw [← hr] at g6
        exact g6
      clear g6 o6 gD nD u4 hcs gl lc at4 dl s5 s4 m3 ga4 s25 s3
      -- what was found so far
      walk_at "s"
      walk_at "1"
      refine ⟨by decide, fun z nz => ?_⟩
      have s7 : Same H6 (upd H6 z (.lst [.int 0])) := same_new nz
      have gz : upd H6 z (.lst [.int 0]) z = some (.lst [.int 0]) := upd_same
      generalize upd H6 z (.lst [.int 0]) = H7 at *
      refine ⟨z, _, _, rfl, rfl, gz, by omega, by omega, ?_, fun l1 nl1 => ?_⟩
      · rw [List.length_singleton, sizeLine_eq]
        omega
      rw [show ((k : Nat) : Int) + 1 = ((k + 1 : Nat) : Int) by omega, Int.toNat_natCast, List.flatten_replicate_singleton] at *
      have s8 : Same H7 (upd H7 l1 (.lst (List.replicate (k + 1) (.int 0)))) := same_new nl1
      have gl1 : upd H7 l1 (.lst (List.replicate (k + 1) (.int 0))) l1 = some (.lst (List.replicate (k + 1) (.int 0))) := upd_same
      generalize upd H7 l1 (.lst (List.replicate (k + 1) (.int 0))) = H8 at *
      have s68 := s7.trans s8
      refine least_three (i := 7) rfl (s68 _ _ c0) fun H9 s9 => ?_
      refine ⟨by decide, fun l2 nl2 => ?_⟩
      have s10 : Same H9 (upd H9 l2 (.lst [.int (min3 (homeC B (qsOf g rows) ds es k 0))])) := same_new nl2
      have gl2 : upd H9 l2 (.lst [.int (min3 (homeC B (qsOf g rows) ds es k 0))]) l2 = some (.lst [.int (min3 (homeC B (qsOf g rows) ds es k 0))]) := upd_same
      show uAdd (.ref l1) (.ref l2) (upd H9 l2 (.lst [.int (min3 (homeC B (qsOf g rows) ds es k 0))])) _
      generalize upd H9 l2 (.lst [.int (min3 (homeC B (qsOf g rows) ds es k 0))]) = H10 at *
      have s6A := s68.trans (s9.trans s10)
      refine ⟨l1, l2, _, _, rfl, rfl, (s9.trans s10) _ _ gl1, gl2, ?_, fun L nL => ?_⟩
      · rw [List.length_replicate, List.length_singleton, sizeLine_eq]
        omega
      have s11 : Same H10 (upd H10 L (.lst (List.replicate (k + 1) (V.int 0) ++ [.int (min3 (homeC B (qsOf g rows) ds es k 0))]))) := same_new nL
      have gL : upd H10 L (.lst (List.replicate (k + 1) (V.int 0) ++ [.int (min3 (homeC B (qsOf g rows) ds es k 0))])) L = some (.lst (iV (List.replicate (k + 1) 0 ++ (List.range 1).map fun m => min3 (homeC B (qsOf g rows) ds es k m)))) := by
        rw [upd_same]
        unfold iV
        rw [List.map_append, List.map_replicate]
        rfl
      generalize upd H10 L (.lst (List.replicate (k + 1) (V.int 0) ++ [.int (min3 (homeC B (qsOf g rows) ds es k 0))])) = H11 at *
      have nL2 : H2 L = none := (s26.trans s6A).free nL
      have s2B := (s26.trans s6A).trans s11
      have cB := s11 _ _ (s6A _ _ c0)
      clear s7 gz s8 gl1 s68 s9 s10 gl2 s6A s11 nL nl1 nl2 nz s26 c0
      walk_at "s"
      refine tFor_rng2 ?_
      walk_at "1"
      refine lenO_of (hy2.1.same s2B) ?_
      walk_at "1"
      refine ⟨((k + 1 : Nat) : Int), (rows.length : Int), rfl, ⟨by omega, by omega, by omega, by omega⟩, ?_⟩
      rw [show ((rows.length : Int) - ((k + 1 : Nat) : Int)).toNat = r by omega]
      refine laps_pl (plain_R (lo := ((k + 1 : Nat) : Int)) (n := r)) (fun i τ H' => ∃ o6 D7 o9 o10 o11, τ = [some (.ref p), some (.str (wd ds)), some (.str (wd es)), some (.ref a), some (.int (k : Nat)), some (.ref c), o6, some (.ref D7), some (.ref L), o9, o10, o11, none] ∧ Same H2 H' ∧ D7 ≠ L ∧ Cs H' D7 (homeC B (qsOf g rows) ds es k i) ∧ H' L = some (.lst (iV (List.replicate (k + 1) 0 ++ (List.range (i + 1)).map fun m => min3 (homeC B (qsOf g rows) ds es k m)))))
        ⟨_, Dc, _, _, _, rfl, s2B, (by rintro rfl; rw [gL] at cB; cases cB), cB, gL⟩ (fun _ _ _ _ => trivial) ?_ ?_
      · rintro i x τ H3 hx ⟨o6, D7, o9, o10, o11, rfl, sH, nDL, hC, hL⟩
        have lt : i < r := by have := (List.getElem?_eq_some_iff.mp hx).1; simpa [intsL] using this
        have hx : x = .int ((k + 1 + i : Nat) : Int) := by
          simp [intsL, lt] at hx
          rw [← hx]
          congr 1
        subst hx
        simp only [gName, List.set_cons_zero, List.set_cons_succ]
        walk_at "s"
        walk_at "1"
        walk_at "s"
        simp only [tAsg]
        refine same_costs R F (σ := [_, _, _, some (.ref a), _, _, _, _, _, _, _, _, _]) rfl (by show 6 < 13; decide) (sH _ _ ga) fun E2 H4 s4 nE gE => ?_
        have nE7 : E2 ≠ D7 := by rintro rfl; unfold Cs at hC; rw [hC] at nE; cases nE
        have nEL : E2 ≠ L := by rintro rfl; rw [hL] at nE; cases nE
        have nE2 := sH.free nE
        have sH4 := sH.trans s4
        have hC4 : Cs H4 D7 (homeC B (qsOf g rows) ds es k i) := s4 _ _ hC
        have hL4 := s4 _ _ hL
        clear hC hL s4 nE sH
        show tSeq _ _ _ [some (.ref p), some (.str (wd ds)), some (.str (wd es)), some (.ref a), some (.int (k : Nat)), some (.ref c), o6, some (.ref E2), some (.ref L), some (.int ((k + 1 + i : Nat) : Int)), some (.ref D7), o11, none] H4
        obtain ⟨r', hr'⟩ : ∃ r', r' = es.length - 1 - (k + 1 + i) := ⟨_, rfl⟩
        have lr' : r' < (qsOf g rows).length := by omega
        obtain ⟨lp4, lt4, ⟨da4, bk4, ga4⟩, _, ⟨ts, t1, t2, t3⟩, _, _⟩ := id (m2.same sH4).n
        have lts : ts.length = (qsOf g rows).length + 1 := by
          rw [t2]
          unfold towersL
          (rw [List.length_map, List.length_range])
        have htt : ts[r']? = some (ts[r']'(by omega)) := List.getElem?_eq_getElem _
        have stt := t3 r' _ (six (levelQ (qsOf g rows) r')) htt (by
          unfold towersL
          rw [List.getElem?_map, List.getElem?_range (by omega)]
          rfl)
        generalize ts[r']'(by omega) = t' at *
        walk_at "s"
        walk_at "1"
        refine ⟨a, _, da4, _, .ref lt4, rfl, ga4, R.cl, R.towers, rfl, ?_⟩
        refine lenO_of (hy2.1.same sH4) ?_
        walk_at "1"
        rw [show (rows.length : Int) - 1 - ((k + 1 + i : Nat) : Int) = (r' : Nat) by omega]
        refine ⟨_, _, .inl (.inl (.inl t1)), at_nat (by rw [List.getElem?_map, htt]; rfl), ?_⟩
        refine ⟨t', levelQ (qsOf g rows) r', rfl, stt, fun w H5 s5 nw ew => ?_⟩
        obtain ⟨q0, q1, q2, w0, w1, w2, w3⟩ := ew
        have each : ∀ j, j < 3 → ∃ o, (∀ H', H' w = some (.dK [(.inr "a", .ref q0), (.inr "b", .ref q1), (.inr "c", .ref q2)]) → DGet H' w (.str (pl j)) (some (.ref o))) ∧ H5 o = some (.tup (iV (three (dd (levelQ (qsOf g rows) r') j)))) := fun j hj => by
          match j, hj with
          | 0, _ => exact ⟨q0, fun H' e => DGet.k (k := .inr "a") e, w1⟩
          | 1, _ => exact ⟨q1, fun H' e => DGet.k (k := .inr "b") e, w2⟩
          | 2, _ => exact ⟨q2, fun H' e => DGet.k (k := .inr "c") e, w3⟩
        have nwE : w ≠ E2 := by rintro rfl; unfold Cs at gE; rw [gE] at nw; cases nw
        walk_at "s"
        refine tFor_seqT' (F.places H5) (fun _ => rfl) ?_
        refine laps_pl plain_T (fun m τ H' => ∃ o6, τ = [some (.ref p), some (.str (wd ds)), some (.str (wd es)), some (.ref a), some (.int (k : Nat)), some (.ref c), o6, some (.ref E2), some (.ref L), some (.int ((k + 1 + i : Nat) : Int)), some (.ref D7), some (.ref w), none] ∧ Off E2 H5 H' ∧ Cs H' E2 (homeStep (fnOf (((qsOf g rows)[r']?).getD [])) (levelQ (qsOf g rows) r') ((es[k + i + 1]?).getD 0) (homeC B (qsOf g rows) ds es k i) B m))
          ⟨_, rfl, Off.refl, s5 _ _ gE⟩ (fun _ _ _ _ => F.places _) ?_ ?_
        · rintro m x τ H6 hx ⟨o6, rfl, o6', cm⟩
          have pm : ∃ hm : m < 3, x = .str (pl m) := by
            match m, hx with
            | 0, hx => cases hx; exact ⟨by decide, rfl⟩
            | 1, hx => cases hx; exact ⟨by decide, rfl⟩
            | 2, hx => cases hx; exact ⟨by decide, rfl⟩
          obtain ⟨hm, rfl⟩ := pm
          obtain ⟨o, dg, ho⟩ := each m hm
          have oE : o ≠ E2 := by rintro rfl; rw [s5 _ _ gE] at ho; cases ho
          have ho6 := o6' _ _ oE ho
          have dg6 : DGet H6 w (.str (pl m)) (some (.ref o)) := dg _ (o6' _ _ nwE w0)
          have d7 : Cs H6 D7 (homeC B (qsOf g rows) ds es k i) := o6' _ _ nE7.symm (s5 _ _ hC4)
          have sH6 : Same H2 H6 := (Off.trans (Same.off (sH4.trans s5)) o6').same nE2
          simp only [gName, List.set_cons_zero, List.set_cons_succ]
          walk_at "1"
          refine ⟨_, rfl, _, rfl, w, _, rfl, dg6, ?_⟩
          refine ⟨_, rfl, _, rfl, D7, _, rfl, cs_get d7 hm, ?_⟩
          refine ⟨a, B, qsOf g rows, E2, _, m, es, k + 1 + i, o, _, _, rfl, (m2.same sH6).n, rfl, cm, rfl, hm, rfl, d2, by omega, rfl, by omega, rfl, .inl (.inl ho6), rfl, fun H7 o7 c7 => ?_⟩
          refine ⟨_, rfl, o6'.trans o7, ?_⟩
          rw [← hr'] at c7
          rw [show k + 1 + i = k + i + 1 by omega] at c7
          exact c7
        · rintro τ H6 ⟨o6, rfl, o6', cm⟩
          have sH6 : Same H2 H6 := (Off.trans (Same.off (sH4.trans s5)) o6').same nE2
          have hL6 := o6' _ _ nEL.symm (s5 _ _ hL4)
          have cm : Cs H6 E2 (homeC B (qsOf g rows) ds es k (i + 1)) := by
            have : homeC B (qsOf g rows) ds es k (i + 1) = homeStep (fnOf (((qsOf g rows)[r']?).getD [])) (levelQ (qsOf g rows) r') ((es[k + i + 1]?).getD 0) (homeC B (qsOf g rows) ds es k i) B 3 := by
              rw [hr', show k + 1 + i = k + i + 1 by omega]
              rfl
            rw [this]
            exact cm
          walk_at "1"
          refine ⟨Or.inl ⟨rfl, _, .inl (.inl hL6)⟩, ?_⟩
          refine least_three (i := 7) rfl cm fun H7 s7 => ?_
          have cm7 : Cs H7 E2 (homeC B (qsOf g rows) ds es k (i + 1)) := s7 _ _ cm
          refine ⟨L, _, _, rfl, rfl, s7 _ _ hL6, ?_, ?_⟩
          · unfold iV
            rw [List.length_map, List.length_append, List.length_replicate, List.length_map, List.length_range]
            exact Nat.lt_of_lt_of_le (show _ < 1000 by omega) (by decide)
          · refine ⟨_, E2, _, _, _, rfl, (Off.trans (Same.off (sH6.trans s7)) off_upd).same nL2, nEL, ?_, ?_⟩
            · unfold Cs
              rw [upd_ne nEL]
              exact cm7
            · rw [upd_same]
              congr 2
              unfold iV
              rw [show List.range (i + 1 + 1) = List.range (i + 1) ++ [i + 1] from List.range_succ, List.map_append]
              simp only [List.map_append, List.append_assoc, List.map_cons, List.map_nil, List.replicate_succ, List.cons_append]
      · rintro τ H3 ⟨o6, D7, o9, o10, o11, rfl, sH, nDL, hC, hL⟩
        have lr2 : (intsL ((k + 1 : Nat) : Int) r).length = r := by simp [intsL]
        rw [lr2] at hL
        walk_at "1"
        refine tLc_seq (p := L) (.inl (.inl (.inl hL))) (tVar_eq rfl) fun J G Pl hG D hD => ?_
        refine lc_grow Pl (fun acc _ => acc = ((homeT g rows ds es).take acc.length).map pV) hD ?_ hG (fun _ _ => rfl) (fun _ _ _ _ _ _ h => h) ?_ ?_
        · unfold iV
          rw [List.length_map, List.length_append, List.length_replicate, List.length_map, List.length_range]
          exact Nat.le_of_lt (Nat.lt_of_lt_of_le (show _ < 1000 by omega) (by decide))
        · rintro i x acc H4 Q' hx s4 hl ha go
          have len : (homeL B (qsOf g rows) ds es) = List.replicate (k + 1) 0 ++ (List.range (es.length - k)).map fun m => min3 (homeC B (qsOf g rows) ds es k m) := by
            unfold homeL
            rw [hf]
          rw [show r + 1 = es.length - k by omega, ← len] at hx
          unfold iV at hx
          rw [List.getElem?_map] at hx
          obtain ⟨n, hn, rfl⟩ := Option.map_eq_some_iff.mp hx
          simp only [tMeth, tVar]
          have ga4 := s4 _ _ (sH _ _ ga)
          refine ⟨_, rfl, a, da, _, rfl, ga4, rfl, ?_⟩
          walk_at "1"
          refine ⟨a, B, .ref lp, .ref lt, n, rfl, ⟨da, bk, ga4⟩, rfl, ?_⟩
          refine go _ H4 (Same.refl _) ?_
          refine take_snoc pV ha hl ?_
          unfold homeT
          rw [List.getElem?_map, hB, hn]
          rfl
        · rintro acc H4 hl s4 hD4 ha
          have el : acc.length = (homeT g rows ds es).length := by
            rw [hl]
            unfold iV homeT homeL
            rw [hf, hB]
            simp only [List.length_map, List.length_append, List.length_replicate, List.length_range]
            omega
          rw [el, List.take_length] at ha
          subst ha
          exact q D H4 (sH.trans s4) (sH.free hD) hD4
end
end U
namespace U
open PySem PySem.Spec PyProof.Rows L2

/-! ### home_within -/
def isNt : V → Bool
  | .int i => decide (0 ≤ i)
  | _ => false
/-- how many are known and not above k -/
def upTo (os : List (Option Int)) (k : Int) : List (Option Int) := os.filter fun o => match o with
  | none => false
  | some i => decide (i ≤ k)
def sp_home_within (K : PySem.W.Frag) : Sp := sp4 fun y x z c H Q E => RefB K H y x z E ∨ ∃ p rows ds es, y = .ref p ∧ YdK K H p rows ∧ Arr rows.length x ds ∧ Arr rows.length z es ∧ (∀ H1, Mild K p H H1 → ∃ b, Is K H1 c b) ∧
  (isNt c = false → ∀ H1, Mild K p H H1 → YdK K H1 p rows → Rz K "InvalidCount" "value" c H1 E) ∧ ∀ k : Int, c = .int k → 0 ≤ k → ∀ g H', Great rows g → Mild K p H H' → YdK K H' p rows → Q (.int ((upTo (homeT g rows ds es) k).length - 1)) H'
def t_home_within (K : PySem.W.Frag) (E : XK) : TS := (tSeq (tAsg (tFn (sp_home_costs K) E (tCons (tVar 0) (tCons (tVar 1) (tCons (tVar 2) tNil)))) (gName 4)) (tSeq (tIfS (tOr (tNot (tB (tFn (sp_is_integer K) E (tCons (tVar 3) tNil)))) (tTest (tOp uLt (tVar 3) (tC (.int 0))))) (tRse K "InvalidCount" "value" E (tCons (tVar 3) tNil)) tNext) (tRet (tOp uSub (tCB (uLen K) (tCons (tLc (iSeq K (tVar 4)) (gName 5) (tAnd (tTest (tOp uNis (tVar 5) (tC .non))) (tTest (tOp uLe (tVar 5) (tVar 3)))) (tVar 5) [5]) tNil)) (tC (.int 1))))))
section
variable {K : PySem.W.Frag} (F : KF K) (R : KR K) {vs : List V} {H : Hp} {Q : VK} {E : XK}
local macro_rules | `(tactic| walk_at "w") => `(tactic| try simp only [turnE, lcT, Snoc, tRet, tRetN, tAndV, tOrV, tNotV, tCB, tCons, tVar, tNil, tC, tOp, tSeq, tAsg, gName, gSub, tIfS, tDrop, tFn, tTup, tLst, tNext, tB, tTest, tNot, tAnd, tOr, tIf, tChain, tUn, rU, tFld, tPart, tNoPart, L2.tSl, tBM, tPar, tPar3, tTruth, tDNewK,
  L2.start, List.map_cons, List.map_nil, List.length_cons, List.length_nil, List.replicate_succ, List.replicate_zero, List.append_nil, List.nil_append, List.cons_append, List.singleton_append, Nat.sub_self, Nat.zero_add, Nat.reduceAdd, Nat.reduceSub,
  List.getElem?_cons_zero, List.getElem?_cons_succ, List.set_cons_zero, List.set_cons_succ, Option.some.injEq, exists_eq_left, exists_eq_left', V.int.injEq, V.bl.injEq, V.str.injEq, V.ref.injEq,
  uAdd_int, uAdd_str, uSub_int, uMul_int, uMul_str, uDiv_int, uMod_int, uPow_int, uLt_int, uLe_int, uGt_int, uGe_int, uIs_non, uNis_non, uIs_bl, uNis_bl, sp1, sp2, sp3, sp4, uEq_int, uEq_str, uNe_int, uNe_str, uSl_str, uLen_str, decide_eq_true_eq])
local macro_rules | `(tactic| walk_at "1") => `(tactic| try simp only [turnE, lcT, Snoc, tRet, tRetN, tAndV, tOrV, tNotV, tCB, tCons, tVar, tNil, tC, tOp, tAsg, gName, gSub, tIfS, tDrop, tFn, tTup, tLst, tNext, tB, tTest, tNot, tAnd, tOr, tIf, tChain, tUn, rU, tFld, tPart, tNoPart, L2.tSl, tBM, tPar, tPar3, tTruth, tDNewK,
  L2.start, List.map_cons, List.map_nil, List.length_cons, List.length_nil, List.replicate_succ, List.replicate_zero, List.append_nil, List.nil_append, List.cons_append, List.singleton_append, Nat.sub_self, Nat.zero_add, Nat.reduceAdd, Nat.reduceSub,
  List.getElem?_cons_zero, List.getElem?_cons_succ, List.set_cons_zero, List.set_cons_succ, Option.some.injEq, exists_eq_left, exists_eq_left', V.int.injEq, V.bl.injEq, V.str.injEq, V.ref.injEq,
  uAdd_int, uAdd_str, uSub_int, uMul_int, uMul_str, uDiv_int, uMod_int, uPow_int, uLt_int, uLe_int, uGt_int, uGe_int, uIs_non, uNis_non, uIs_bl, uNis_bl, sp1, sp2, sp3, sp4, uEq_int, uEq_str, uNe_int, uNe_str, uSl_str, uLen_str, decide_eq_true_eq])
local macro_rules | `(tactic| walk_at "s") => `(tactic| ((try dsimp only [turnE]); with_reducible refine seq_ ?_))

include F in
theorem read_home_within (h : sp_home_within K vs H Q E) : t_home_within K E { nx := fun _ H' => Q .non H', rt := Q } (start ["yard", "start", "goal", "cost", "costs", "least"] vs) H := by
  match vs, h with
  | [_, _, _, _], .inl h =>
    unfold t_home_within
    walk_at "s"
    walk_at "1"
    exact .inl h
  | [_, _, _, c], .inr ⟨p, rows, ds, es, rfl, hy, h1, h2, kc, q1, q2⟩ =>
    unfold t_home_within
    walk_at "s"
    walk_at "1"
    refine .inr ⟨p, rows, ds, es, rfl, hy, h1, h2, fun g l H1 H2 hg md hy1 s2 nl gl => ?_⟩
    obtain ⟨_, _, _, gp1, _⟩ := id hy1.2.2
    have md2 := md.trans (Mild.of_same gp1 s2)
    have hy2 := hy1.same s2
    obtain ⟨b, kb⟩ := kc H2 md2
    walk_at "s"
    walk_at "1"
    refine ⟨b, kb, ?_⟩
    have bad : isNt c = false → Rz K "InvalidCount" "value" c H2 E := fun z => q1 z H2 md2 hy2
    cases c with
    | int k =>
      simp only [isI]
      walk_at "1"
      (simp only [Bool.not_true, Bool.false_eq_true, if_false])
      by_cases k0 : 0 ≤ k
      · rw [if_neg (show ¬ k < 0 by omega)]
        have q2 := fun H' md hy => q2 k rfl k0 g H' hg md hy
        have hos : ∃ os, os = homeT g rows ds es := ⟨_, rfl⟩
        obtain ⟨os, eo⟩ := hos
        rw [← eo] at gl q2
        have few : os.length ≤ 1000 := by
          have l1 := h1.2.1
          have l2 := h2.2.1
          have h60 : rows.length ≤ 60 := by
            obtain ⟨⟨_, _, _, _, _, _, y4, _⟩, _⟩ := hy
            exact y4
          rw [eo]
          unfold homeT homeL
          cases hf : firstA ds es with
          | none =>
            simp only [List.length_map, List.length_replicate]
            omega
          | some k =>
            have := (firstA_lt hf).1
            simp only [List.length_map, List.length_append, List.length_replicate, List.length_range]
            omega
        walk_at "1"
        refine tLc_seq (K := K) (p := l) (t := tVar 4) (σ := [_, _, _, _, some (.ref l), _]) (.inl (.inl (.inl gl))) (tVar_eq rfl) fun J G Pl hG D hD => ?_
        refine lc_plain Pl (fun i H' => Same H2 H' ∧ H' D = some (.lst ((upTo (os.take i) k).map pV))) ⟨same_new hD, upd_same⟩ (fun i H' z => hG _ z.1) ?_ ?_
        · rintro i x H3 hx ⟨s3, g3⟩
          rw [List.getElem?_map] at hx
          obtain ⟨o, ho, rfl⟩ := Option.map_eq_some_iff.mp hx
          have lo := (List.getElem?_eq_some_iff.mp ho).1
          have et : upTo (os.take (i + 1)) k = upTo (os.take i) k ++ upTo [o] k := by
            unfold upTo
            rw [List.take_succ_eq_append_getElem lo, List.filter_append, (List.getElem?_eq_some_iff.mp ho).2]
          have fl : (upTo (os.take i) k).length ≤ 1000 := by
            have := List.length_filter_le (fun o : Option Int => match o with
              | none => false
              | some i => decide (i ≤ k)) (os.take i)
            have e2 := List.length_take_le i os
            unfold upTo
            omega
          rw [et]
          simp only [lcT, wipe]
          walk_at "1"
          refine ⟨trivial, ?_⟩
          cases o with
          | none =>
            simp only [pV, decide_true, Bool.not_true, Bool.false_eq_true, if_false]
            exact ⟨s3, by rw [g3]; simp [upTo]⟩
          | some n =>
            simp only [pV, reduceCtorEq, decide_false, Bool.not_false, if_true]
            walk_at "1"
            by_cases nk : n ≤ k
            · rw [if_pos nk]
              refine ⟨_, g3, ?_, (Off.trans (Same.off s3) off_upd).same hD, ?_⟩
              · rw [List.length_map]
                exact Nat.lt_of_le_of_lt fl (by decide)
              · rw [upd_same, List.map_append]
                simp [upTo, nk, pV]
            · rw [if_neg nk]
              exact ⟨s3, by rw [g3]; simp [upTo, nk]⟩
        · rintro H3 ⟨s3, g3⟩
          rw [List.length_map, List.take_length] at g3
          refine uLen_seq (.inl (.inl (.inl g3))) ?_
          rw [List.length_map]
          walk_at "1"
          obtain ⟨_, _, _, gp2, _⟩ := id hy2.2.2
          exact q2 H3 (md2.trans (Mild.of_same gp2 s3)) (hy2.same s3)
      · rw [if_pos (show k < 0 by omega)]
        exact rse_var (K := K) (c := "InvalidCount") (f := "value") (E := E) (i := 3) rfl (bad (decide_eq_false k0))
    | _ =>
      simp only [isI]
      walk_at "1"
      refine rse_var (K := K) (c := "InvalidCount") (f := "value") (E := E) (i := 3) (D := { nx := fun _ H' => Q .non H', rt := Q }) rfl (bad rfl)
end
end U
namespace U
open PySem PySem.Spec PyProof.Rows L2

/-! ### the boxes of numbers that the laws draw from -/
def Bx (H : Hp) (b : Addr) (m : Int) : Prop := ∃ g s k : Int, H b = some (.lst [.int g, .int s, .int k]) ∧ 0 ≤ g ∧ 0 ≤ s ∧ s < 2147483648 ∧ 0 ≤ k ∧ k ≤ m
theorem Bx.mono {H : Hp} {b : Addr} {m n : Int} (h : Bx H b m) (e : m ≤ n) : Bx H b n := by
  obtain ⟨g, s, k, h1, h2, h3, h4, h5, h6⟩ := h
  exact ⟨g, s, k, h1, h2, h3, h4, h5, by omega⟩
theorem Bx.same {H H' : Hp} {b : Addr} {m : Int} (h : Bx H b m) (e : Same H H') : Bx H' b m := by
  obtain ⟨g, s, k, h1, h2⟩ := h
  exact ⟨g, s, k, e _ _ h1, h2⟩
theorem Bx.at_ {H : Hp} {b : Addr} {m : Int} (h : Bx H b m) : ∃ l, H b = some (.lst l) := by
  obtain ⟨g, s, k, h1, _⟩ := h
  exact ⟨_, h1⟩
theorem Off.lst {H H' : Hp} {b c : Addr} {o : HO} (h : Off b H H') (hc : H c = some o) (n : c ≠ b) : H' c = some o := h _ _ n hc
theorem Off.new {H H2 : Hp} {b D : Addr} {o : HO} (h : Off b H H2) (hD : H D = none) : Off b H (upd H2 D o) := fun c u n e => by rw [upd_ne (ne_of_none e hD)]; exact h c u n e
theorem Bx.upd {H : Hp} {b D : Addr} {m : Int} {o : HO} (h : Bx H b m) (n : D ≠ b) : Bx (upd H D o) b m := by
  obtain ⟨g, s, k, h1, h2⟩ := h
  exact ⟨g, s, k, by rw [upd_ne n.symm]; exact h1, h2⟩
def sp__law_take (_K : PySem.W.Frag) : Sp := sp2 fun x am H Q _ => ∃ b m k, x = .ref b ∧ am = .int k ∧ 0 < k ∧ k ≤ 1000000000 ∧ Bx H b m ∧ m ≤ 1000000000 ∧ ∀ d H', 0 ≤ d → d < k → Off b H H' → Bx H' b (m + 1) → Q (.int d) H'
def sp__law_cell (K : PySem.W.Frag) : Sp := sp2 fun x y H Q _ => ∃ (a : Addr) (ns : List Int) (i : Int), x = .ref a ∧ y = .int i ∧ SqL K H a (ns.map V.int) ∧ 0 ≤ i ∧ i < 1000000 ∧ ∀ c H', Same H H' → Q (.int c) H'
def sp__law_box (_K : PySem.W.Frag) : Sp := sp1 fun x H Q _ => ∃ c, x = .int c ∧ ∀ b H', H b = none → Same H H' → Bx H' b 0 → Q (.ref b) H'
def sp__law_size (_K : PySem.W.Frag) : Sp := sp2 fun x y H Q _ => ∃ b m k, x = .ref b ∧ y = .int k ∧ 1 ≤ k ∧ k ≤ 1000000000 ∧ Bx H b m ∧ m ≤ 1000000 ∧ ∀ r H', 1 ≤ r → r ≤ k → Off b H H' → Bx H' b (m + 2) → Q (.int r) H'
def t__law_take (K : PySem.W.Frag) (E : XK) : TS := (tSeq (tIfS (tTest (tOp uGt (tOp (uIx K) (tVar 0) (tC (.int 0))) (tC (.int 0)))) (tSeq (tAsg (tOp uMod (tCB rInt (tCons (tOp (uIx K) (tVar 0) (tC (.int 0))) tNil)) (tVar 1)) (gName 2)) (tSeq (tAsg (tOp uDiv (tOp (uIx K) (tVar 0) (tC (.int 0))) (tVar 1)) (gSub (tVar 0) (tC (.int 0)) rSetL)) (tRet (tVar 2)))) tNext) (tSeq (tAsg (tOp uAdd (tOp (uIx K) (tVar 0) (tC (.int 2))) (tC (.int 1))) (gSub (tVar 0) (tC (.int 2)) rSetL)) (tSeq (tAsg (tOp uMod (tOp uPow (tCB rInt (tCons (tOp uAdd (tOp uAdd (tOp (uIx K) (tVar 0) (tC (.int 1))) (tOp uMul (tC (.int 122949823)) (tOp (uIx K) (tVar 0) (tC (.int 2))))) (tC (.int 271))) tNil)) (tC (.int 5))) (tC (.int 2147483647))) (gName 3)) (tSeq (tAsg (tOp uMod (tOp uPow (tCB rInt (tCons (tOp uAdd (tVar 3) (tOp uMul (tC (.int 72497)) (tOp (uIx K) (tVar 0) (tC (.int 2))))) tNil)) (tC (.int 3))) (tC (.int 2147483587))) (gName 3)) (tRet (tOp uMod (tCB rInt (tCons (tOp uDiv (tVar 3) (tC (.int 16))) tNil)) (tVar 1)))))))
def t__law_cell (K : PySem.W.Frag) (E : XK) : TS := (tSeq (tIfS (tTest (tOp uLt (tVar 1) (tCB (uLen K) (tCons (tVar 0) tNil)))) (tRet (tOp (uIx K) (tVar 0) (tVar 1))) tNext) (tRet (tOp uAdd (tOp uAdd (tOp uMul (tC (.int 122949823)) (tVar 1)) (tC (.int 7411))) (tOp uMod (tCB (rSum K) (tCons (tSl (uSl K) (tVar 0) tNoPart (tPart (tC (.int 1)))) tNil)) (tC (.int 1000003))))))
def t__law_box (K : PySem.W.Frag) (E : XK) : TS := (tRet (tLst (tCons (tCB uMax2 (tCons (tC (.int 0)) (tCons (tOp uSub (tVar 0) (tOp uPow (tC (.int 10)) (tC (.int 18)))) tNil))) (tCons (tOp uMod (tCB rInt (tCons (tVar 0) tNil)) (tC (.int 2147483629))) (tCons (tC (.int 0)) tNil)))))
def t__law_size (K : PySem.W.Frag) (E : XK) : TS := (tSeq (tAsg (tOp uAdd (tC (.int 1)) (tFn (sp__law_take K) E (tCons (tVar 0) (tCons (tVar 1) tNil)))) (gName 2)) (tRet (tIf (tAnd (tTest (tOp (uEq K) (tVar 2) (tC (.int 1)))) (tTest (tOp uGt (tFn (sp__law_take K) E (tCons (tVar 0) (tCons (tC (.int 4)) tNil))) (tC (.int 0))))) (tVar 1) (tVar 2))))
section
variable {K : PySem.W.Frag} (F : KF K) {vs : List V} {H : Hp} {Q : VK} {E : XK}
local macro_rules | `(tactic| walk_at "w") => `(tactic| try simp only [turnE, lcT, Snoc, tRet, tRetN, tAndV, tOrV, tNotV, tCB, tCons, tVar, tNil, tC, tOp, tSeq, tAsg, gName, gSub, tIfS, tDrop, tFn, tTup, tLst, tNext, tB, tTest, tNot, tAnd, tOr, tIf, tChain, tUn, rU, tFld, tPart, tNoPart, L2.tSl, tBM, tPar, tPar3, tTruth, tDNewK,
  L2.start, List.map_cons, List.map_nil, List.length_cons, List.length_nil, List.replicate_succ, List.replicate_zero, List.append_nil, List.nil_append, List.cons_append, List.singleton_append, Nat.sub_self, Nat.zero_add, Nat.reduceAdd, Nat.reduceSub,
  List.getElem?_cons_zero, List.getElem?_cons_succ, List.set_cons_zero, List.set_cons_succ, Option.some.injEq, exists_eq_left, exists_eq_left', V.int.injEq, V.bl.injEq, V.str.injEq, V.ref.injEq,
  uAdd_int, uAdd_str, uSub_int, uMul_int, uMul_str, uDiv_int, uMod_int, uPow_int, uLt_int, uLe_int, uGt_int, uGe_int, uIs_non, uNis_non, uIs_bl, uNis_bl, sp1, sp2, sp3, sp4, uEq_int, uEq_str, uNe_int, uNe_str, uSl_str, uLen_str, decide_eq_true_eq])
local macro_rules | `(tactic| walk_at "1") => `(tactic| try simp only [turnE, lcT, Snoc, tRet, tRetN, tAndV, tOrV, tNotV, tCB, tCons, tVar, tNil, tC, tOp, tAsg, gName, gSub, tIfS, tDrop, tFn, tTup, tLst, tNext, tB, tTest, tNot, tAnd, tOr, tIf, tChain, tUn, rU, tFld, tPart, tNoPart, L2.tSl, tBM, tPar, tPar3, tTruth, tDNewK,
  L2.start, List.map_cons, List.map_nil, List.length_cons, List.length_nil, List.replicate_succ, List.replicate_zero, List.append_nil, List.nil_append, List.cons_append, List.singleton_append, Nat.sub_self, Nat.zero_add, Nat.reduceAdd, Nat.reduceSub,
  List.getElem?_cons_zero, List.getElem?_cons_succ, List.set_cons_zero, List.set_cons_succ, Option.some.injEq, exists_eq_left, exists_eq_left', V.int.injEq, V.bl.injEq, V.str.injEq, V.ref.injEq,
  uAdd_int, uAdd_str, uSub_int, uMul_int, uMul_str, uDiv_int, uMod_int, uPow_int, uLt_int, uLe_int, uGt_int, uGe_int, uIs_non, uNis_non, uIs_bl, uNis_bl, sp1, sp2, sp3, sp4, uEq_int, uEq_str, uNe_int, uNe_str, uSl_str, uLen_str, decide_eq_true_eq])
local macro_rules | `(tactic| walk_at "s") => `(tactic| ((try dsimp only [turnE]); with_reducible refine seq_ ?_))

theorem uIx_lst {p : Addr} {xs : List V} {i : Int} {v : V} (h : H p = some (.lst xs)) (hi : atI xs i = some v) (q : Q v H) : uIx K (.ref p) (.int i) H Q := ⟨xs, v, .inl (.inl (.inl h)), hi, q⟩
theorem rInt_int {i : Int} (q : Q (.int i) H) : rInt [.int i] H Q := .inl ⟨i, rfl, q⟩
theorem rSetL_of {p : Addr} {xs : List V} {k : Int} {j : Nat} {v : V} {Q : Hp → Prop} (h : H p = some (.lst xs)) (hj : ixN xs.length k = some j) (q : Q (upd H p (.lst (xs.set j v)))) : rSetL (.ref p) (.int k) v H Q := ⟨p, xs, k, j, rfl, rfl, h, hj, q⟩
theorem cdivw_of {i j : Int} (h : 0 < j) (h2 : j ≤ 1000000000) : CDivW i j := by
  refine ⟨h, ?_⟩
  have : j.natAbs ≠ 0 := by omega
  have h3 : j.natAbs.log2 < 30 := (Nat.log2_lt this).mpr (by omega)
  omega
include F in
theorem read__law_take (h : sp__law_take K vs H Q E) : t__law_take K E { nx := fun _ H' => Q .non H', rt := Q } (start ["_law_box_here", "_law_amount", "_law_digit", "_law_blend"] vs) H := by
  match vs, h with
  | [_, _], ⟨b, m, k, rfl, rfl, hk, hk2, ⟨g, s, n, hb, h1, h2, h3, h4, h5⟩, hm, q⟩ =>
    unfold t__law_take
    walk_at "w"
    refine uIx_lst hb rfl ?_
    walk_at "w"
    by_cases hg : 0 < g
    · simp only [hg, if_true]
      refine uIx_lst hb rfl (rInt_int ⟨hk, ?_⟩)
      refine uIx_lst hb rfl ?_
      walk_at "w"
      refine ⟨cdivw_of hk hk2, rSetL_of (j := 0) hb rfl ?_⟩
      walk_at "w"
      refine q _ _ (Int.emod_nonneg _ (by omega)) (Int.emod_lt_of_pos _ hk) off_upd ⟨_, _, _, upd_same, Int.ediv_nonneg h1 (by omega), h2, h3, h4, by omega⟩
    · simp only [hg, if_false]
      refine uIx_lst hb rfl ?_
      walk_at "w"
      refine rSetL_of (j := 2) hb rfl ?_
      have ha : upd H b (.lst ([.int g, .int s, .int n].set 2 (.int (n + 1)))) b = some (.lst [.int g, .int s, .int (n + 1)]) := upd_same
      have ho : Off b H (upd H b (.lst ([.int g, .int s, .int n].set 2 (.int (n + 1))))) := off_upd
      generalize upd H b (.lst ([.int g, .int s, .int n].set 2 (.int (n + 1)))) = H1 at *
      refine uIx_lst ha rfl ?_
      walk_at "w"
      refine uIx_lst ha rfl ?_
      walk_at "w"
      refine ⟨.inl (by omega), ?_⟩
      refine rInt_int ?_
      walk_at "w"
      refine ⟨⟨by omega, by omega, by omega⟩, by omega, ?_⟩
      generalize hx : (s + 122949823 * (n + 1) + 271) ^ (Int.toNat 5) % 2147483647 = x
      have hx1 : 0 ≤ x ∧ x < 2147483647 := by
        rw [← hx]
        exact ⟨Int.emod_nonneg _ (by omega), Int.emod_lt_of_pos _ (by omega)⟩
      refine uIx_lst ha rfl ?_
      walk_at "w"
      refine ⟨.inl (by omega), ?_⟩
      refine rInt_int ?_
      walk_at "w"
      refine ⟨⟨by omega, by omega, by omega⟩, by omega, ?_⟩
      generalize hy : (x + 72497 * (n + 1)) ^ (Int.toNat 3) % 2147483587 = y
      refine ⟨cdivw_of (by omega) (by omega), ?_⟩
      refine rInt_int ⟨hk, ?_⟩
      exact q _ _ (Int.emod_nonneg _ (by omega)) (Int.emod_lt_of_pos _ hk) ho ⟨_, _, _, ha, h1, h2, h3, by omega, by omega⟩
include F in
theorem read__law_cell (h : sp__law_cell K vs H Q E) : t__law_cell K E { nx := fun _ H' => Q .non H', rt := Q } (start ["_law_script", "_law_k"] vs) H := by
  match vs, h with
  | [_, _], ⟨a, ns, i, rfl, rfl, ha, h0, h1, q⟩ =>
    unfold t__law_cell
    walk_at "w"
    refine uLen_seq (.inl ha) ?_
    walk_at "w"
    by_cases hi : i < ((ns.map V.int).length : Int)
    · simp only [hi, if_true]
      have hl : i.toNat < ns.length := by simp at hi; omega
      refine ⟨_, .int ns[i.toNat], .inl ha, ?_, q _ _ (Same.refl H)⟩
      unfold atI ixN
      rw [if_pos h0, if_pos hi]
      show (ns.map V.int)[i.toNat]? = _
      rw [List.getElem?_map, List.getElem?_eq_getElem hl]
      rfl
    · simp only [hi, if_false]
      refine ⟨.inl (by omega), .inl ⟨a, _, rfl, ha, fun p hp => ⟨p, ns.take 1, rfl, .inl (.inl ?_), ?_⟩⟩⟩
      · have e : cutV (ns.map V.int) none (some 1) = (ns.take 1).map V.int := by
          cases ns with
          | nil => rfl
          | cons x r =>
            show ((V.int x :: r.map V.int).drop 0).take (min 1 (r.map V.int).length.succ - 0) = [V.int x]
            rw [show min 1 (r.map V.int).length.succ - 0 = 1 by omega]
            rfl
        rw [upd_same, e]
      · walk_at "w"
        exact ⟨by omega, q _ _ (same_new hp)⟩
include F in
theorem read__law_box (h : sp__law_box K vs H Q E) : t__law_box K E { nx := fun _ H' => Q .non H', rt := Q } (start ["_law_cell_here"] vs) H := by
  match vs, h with
  | [_], ⟨c, rfl, q⟩ =>
    unfold t__law_box
    walk_at "w"
    refine ⟨⟨by omega, by omega, by omega⟩, 0, c - 10 ^ Int.toNat 18, rfl, rInt_int ⟨by omega, by decide, fun b hb => q b _ hb (same_new hb) ?_⟩⟩
    refine ⟨_, _, 0, upd_same, ?_, Int.emod_nonneg _ (by omega), ?_, by omega, by omega⟩
    · split <;> omega
    · have := Int.emod_lt_of_pos c (show (0 : Int) < 2147483629 by omega)
      omega
include F in
theorem read__law_size (h : sp__law_size K vs H Q E) : t__law_size K E { nx := fun _ H' => Q .non H', rt := Q } (start ["_law_box_here", "_law_most", "_law_size_here"] vs) H := by
  match vs, h with
  | [_, _], ⟨b, m, k, rfl, rfl, hk, hk2, hb, hm, q⟩ =>
    unfold t__law_size sp__law_take
    walk_at "w"
    refine ⟨b, m, k, rfl, rfl, by omega, hk2, hb, by omega, fun d H1 d0 d1 o1 b1 => ?_⟩
    walk_at "w"
    by_cases e : 1 + d = 1
    · simp only [e, if_true]
      refine ⟨b, m + 1, 4, rfl, rfl, by omega, by omega, b1, by omega, fun d2 H2 e0 e1 o2 b2 => ?_⟩
      walk_at "w"
      have bb := b2.mono (n := m + 2) (by omega)
      by_cases g : 0 < d2
      · simp only [g, if_true]
        exact q _ _ (by omega) (by omega) (o1.trans o2) bb
      · simp only [g, if_false]
        exact q _ _ (by omega) (by omega) (o1.trans o2) bb
    · simp only [e, if_false]
      exact q _ _ (by omega) (by omega) o1 (b1.mono (by omega))
end
end U
namespace U
open PySem PySem.Spec PyProof.Rows L2

/-! ### list comprehensions of three clauses: one rule for a clause's loop, taken three times -/
/-- the slots of a clause's turn, as far as the next turn wants them -/
def Keeps (vs : List Nat) (τ τ' : L2.St) : Prop := τ'.length = τ.length ∧ ∀ (j : Nat) v, (wipe τ vs)[j]? = some (some v) → τ'[j]? = some (some v)
theorem Keeps.refl (vs : List Nat) (τ : L2.St) : Keeps vs τ τ := ⟨rfl, fun _ _ e => (wipe_some e).1⟩
section
variable {B : Cx} {elt t : Expr} {gens : List Comprehension} {scope : Scope} {pos p : Pos} {i : Nat} {ifs : List Expr} {k : Bool → Sem Fin} {it : Addr} {acc : Value} {fp : List Addr} {tn : Nat → Heap → Prop} {J : It} {g : TG} {tt : TT} {vs : List Nat}
  {rd : L2.St → Hp → (Hp → Prop) → Prop} {pins : List (Addr × Obj)} {σ : L2.St} {H : Hp} {s : Shared} {N : Hp → Prop} {R : Result → Shared → Prop}
end
section
variable {elt t0 i0 t1 i1 t2 i2 : Expr} {f0 f1 f2 : List Expr} {scope : Scope} {pos : Pos} {it acc : Value} {env : Env}
end
section
variable {X : Cx} {pins : List (Addr × Obj)} {σ : L2.St} {H : Hp} {s : Shared} -- both
section
variable {elt tg iter tg1 iter1 tg2 iter2 : Expr} {ifs ifs1 ifs2 : List Expr} {scope : Scope} {own : List (Str × Nat)} {vs1 vs2 : List Nat} {pos pos' spos py : Pos} {wi wi1 wi2 : TI} {g g1 g2 : TG} {tt tt1 tt2 : TT} {te : TE} {use : Option (Value → Sem Unit)} {Qf : Value → Shared → Prop} {Q : VK} {i : Nat} {y : Str}
end
end
end U
namespace U
open PySem PySem.Spec PyProof.Rows L2

def sp__law_word (_K : PySem.W.Frag) : Sp := sp2 fun x y H Q _ => ∃ (b : Addr) (m : Int) (n : Nat), x = .ref b ∧ y = .int n ∧ n ≤ 60 ∧ Bx H b m ∧ m ≤ 1000000 ∧ ∀ ds H', ds.length = n → D3 ds → Off b H H' → Bx H' b (m + 60) → Q (.str (wd ds)) H'
/-- prices as the laws draw them: none above a hundred and some, with 27 more figures -/
def lowP : Option Int → Bool
  | none => true
  | some i => decide (0 < i ∧ i < 10 ^ 32)
def RowsLo (rows : List (List (Option Int))) : Prop := ∀ r ∈ rows, r.all lowP = true
theorem low_ok {p : Option Int} (h : lowP p = true) : okP p = true := by
  cases p with
  | none => rfl
  | some i => exact decide_eq_true (of_decide_eq_true h).1
theorem lowL_ok {r : List (Option Int)} (h : r.all lowP = true) : r.all okP = true := List.all_eq_true.mpr fun p m => low_ok (List.all_eq_true.mp h p m)
/-- rows in a list -/
def RowVL (K : PySem.W.Frag) (H : Hp) (x : V) (rows : List (List (Option Int))) : Prop := ∃ (p : Addr) (xs : List V), x = .ref p ∧ SqL K H p xs ∧ xs.length = rows.length ∧
  ∀ (i : Nat) (v : V) (r : List (Option Int)), xs[i]? = some v → rows[i]? = some r → ∃ q, v = .ref q ∧ SqA K H q (r.map pV)
theorem RowVL.rowV {K : PySem.W.Frag} {H : Hp} {x : V} {rows : List (List (Option Int))} (h : RowVL K H x rows) : RowV K H x rows := by
  obtain ⟨p, xs, h1, h2, h3, h4⟩ := h
  exact ⟨p, xs, h1, .inl h2, h3, h4⟩
theorem RowVL.same {K : PySem.W.Frag} {H H' : Hp} {x : V} {rows : List (List (Option Int))} (e : Same H H') (h : RowVL K H x rows) : RowVL K H' x rows := by
  obtain ⟨p, xs, h1, h2, h3, h4⟩ := h
  refine ⟨p, xs, h1, Same.seq e h2, h3, fun i v r z1 z2 => ?_⟩
  obtain ⟨q, e1, e2⟩ := h4 i v r z1 z2
  exact ⟨q, e1, e2.same e⟩
def sp__law_plain (K : PySem.W.Frag) : Sp := sp2 fun x y H Q _ => ∃ (b : Addr) (m : Int) (n : Nat), x = .ref b ∧ y = .int n ∧ 1 ≤ n ∧ n ≤ 60 ∧ Bx H b m ∧ m ≤ 1000000 ∧
  ∀ rows v H', rows.length = n → RowsOk rows → RowV K H' v rows → Off b H H' → Bx H' b (m + 2000) → RowsLo rows → RowVL K H' v rows → Q v H'
def t__law_word (K : PySem.W.Frag) (E : XK) : TS := (tRet (tJoin K (tC (.str "")) (tLc (iRng1 (tCons (tVar 1) tNil)) (gName 2) tYes (tOp (uIx K) (tC (.str "abc")) (tFn (sp__law_take K) E0 (tCons (tVar 0) (tCons (tC (.int 3)) tNil)))) [2])))
def t__law_plain (K : PySem.W.Frag) (E : XK) : TS := (tSeq (tAsg (tOp (uIx K) (tLst (tCons (tC (.int 0)) (tCons (tC (.int 0)) (tCons (tC (.int 2)) (tCons (tC (.int 4)) (tCons (tC (.int 7)) tNil)))))) (tFn (sp__law_take K) E (tCons (tVar 0) (tCons (tC (.int 5)) tNil)))) (gName 2)) (tSeq (tPar3 3 4 5 (tCons (tOp (uEq K) (tFn (sp__law_take K) E (tCons (tVar 0) (tCons (tC (.int 6)) tNil))) (tC (.int 0))) (tCons (tOp (uEq K) (tFn (sp__law_take K) E (tCons (tVar 0) (tCons (tC (.int 4)) tNil))) (tC (.int 0))) (tCons (tLst tNil) tNil)))) (tSeq (tFor (iRng1 (tCons (tVar 1) tNil)) (gName 6) (tSeq (tAsg (tLst tNil) (gName 7)) (tSeq (tFor (iRng1 (tCons (tC (.int 6)) tNil)) (gName 8) (tSeq (tAsg (tOp (uIx K) (tLst (tCons (tC (.int 1)) (tCons (tC (.int 1)) (tCons (tC (.int 2)) (tCons (tC (.int 3)) (tCons (tOp uAdd (tC (.int 1)) (tFn (sp__law_take K) E (tCons (tVar 0) (tCons (tC (.int 20)) tNil)))) (tCons (tC (.int 100)) tNil))))))) (tIf (tTruth K (tVar 4)) (tC (.int 0)) (tFn (sp__law_take K) E (tCons (tVar 0) (tCons (tC (.int 6)) tNil))))) (gName 9)) (tSeq (tAsg (tIf (tAnd (tTruth K (tVar 3)) (tNot (tTruth K (tVar 4)))) (tOp uAdd (tOp uMul (tVar 9) (tOp uPow (tC (.int 10)) (tC (.int 27)))) (tFn (sp__law_take K) E (tCons (tVar 0) (tCons (tC (.int 9)) tNil)))) (tVar 9)) (gName 9)) (tDrop (tBM K "list" rAppend (tVar 7) (tCons (tIf (tTest (tOp uLt (tFn (sp__law_take K) E (tCons (tVar 0) (tCons (tC (.int 20)) tNil))) (tVar 2))) (tC .non) (tVar 9)) tNil)))))) (tDrop (tBM K "list" rAppend (tVar 5) (tCons (tVar 7) tNil)))))) (tRet (tVar 5)))))
theorem Off.free {H H' : Hp} {b l : Addr} (h : Off b H H') (n : l ≠ b) (e : H' l = none) : H l = none := by
  cases q : H l with
  | none => rfl
  | some o =>
    rw [h l o n q] at e
    cases e
theorem join_pl (ds : List Nat) : Txt.join "" (ds.map pl) = wd ds := by
  have key : ∀ (l : List Nat) (acc : Array Nat), ((l.map pl).foldl (fun acc p => acc ++ ("" : Str).cps ++ p.cps) acc).toList = acc.toList ++ l.map (97 + ·) := by
    intro l
    induction l with
    | nil => intro acc; simp
    | cons a l ih =>
      intro acc
      rw [List.map_cons, List.foldl_cons, ih]
      have e0 : ("" : Str).cps = #[] := by decide
      simp [pl, e0]
  have ext : ∀ a b : Str, a.cps.toList = b.cps.toList → a = b := fun a b h => by
    obtain ⟨a⟩ := a
    obtain ⟨b⟩ := b
    exact congrArg Str.mk (Array.toList_inj.mp h)
  apply ext
  cases ds with
  | nil => rfl
  | cons a l =>
    show (((l.map pl).foldl (fun acc p => acc ++ ("" : Str).cps ++ p.cps) (pl a).cps)).toList = _
    rw [key]
    simp [pl, wd]
theorem abc_at {K : PySem.W.Frag} {d : Int} {H : Hp} {Q : VK} (h0 : 0 ≤ d) (h1 : d < 3) (q : Q (.str (pl d.toNat)) H) : uIx K (.str "abc") (.int d) H Q := by
  refine uIx_str (c := 97 + d.toNat) (by decide) ?_ q
  obtain rfl | rfl | rfl : d = 0 ∨ d = 1 ∨ d = 2 := by omega
  · decide
  · decide
  · decide
theorem tLc_rng1 {t : TA} {σ : L2.St} {g : TG} {tt : TT} {te : TE} {vs : List Nat} {Q : VK} {H : Hp} {n : Nat} (h : ∀ R : List V → Hp → Prop, R [.int n] H → t σ H R) (hn : n ≤ 1000000000) (hc : ∀ D, H D = none → LcB (Itr 0 n) g tt te vs σ H D (Q (.ref D))) : tLc (iRng1 t) g tt te vs σ H Q := by
  refine h _ ⟨_, rfl, by omega, by omega, ?_⟩
  rw [Int.toNat_natCast]
  exact hc
section
variable {K : PySem.W.Frag} (F : KF K) {vs : List V} {H : Hp} {Q : VK} {E : XK}
local macro_rules | `(tactic| walk_at "w") => `(tactic| try simp only [turnE, lcT, Snoc, tRet, tRetN, tAndV, tOrV, tNotV, tCB, tCons, tVar, tNil, tC, tOp, tSeq, tAsg, gName, gSub, tIfS, tDrop, tFn, tTup, tLst, tNext, tB, tTest, tNot, tAnd, tOr, tIf, tChain, tUn, rU, tFld, tPart, tNoPart, L2.tSl, tBM, tPar, tPar3, tTruth, tDNewK,
  L2.start, List.map_cons, List.map_nil, List.length_cons, List.length_nil, List.replicate_succ, List.replicate_zero, List.append_nil, List.nil_append, List.cons_append, List.singleton_append, Nat.sub_self, Nat.zero_add, Nat.reduceAdd, Nat.reduceSub,
  List.getElem?_cons_zero, List.getElem?_cons_succ, List.set_cons_zero, List.set_cons_succ, Option.some.injEq, exists_eq_left, exists_eq_left', V.int.injEq, V.bl.injEq, V.str.injEq, V.ref.injEq,
  uAdd_int, uAdd_str, uSub_int, uMul_int, uMul_str, uDiv_int, uMod_int, uPow_int, uLt_int, uLe_int, uGt_int, uGe_int, uIs_non, uNis_non, uIs_bl, uNis_bl, sp1, sp2, sp3, sp4, uEq_int, uEq_str, uNe_int, uNe_str, uSl_str, uLen_str, decide_eq_true_eq])
local macro_rules | `(tactic| walk_at "1") => `(tactic| try simp only [turnE, lcT, Snoc, tRet, tRetN, tAndV, tOrV, tNotV, tCB, tCons, tVar, tNil, tC, tOp, tAsg, gName, gSub, tIfS, tDrop, tFn, tTup, tLst, tNext, tB, tTest, tNot, tAnd, tOr, tIf, tChain, tUn, rU, tFld, tPart, tNoPart, L2.tSl, tBM, tPar, tPar3, tTruth, tDNewK,
  L2.start, List.map_cons, List.map_nil, List.length_cons, List.length_nil, List.replicate_succ, List.replicate_zero, List.append_nil, List.nil_append, List.cons_append, List.singleton_append, Nat.sub_self, Nat.zero_add, Nat.reduceAdd, Nat.reduceSub,
  List.getElem?_cons_zero, List.getElem?_cons_succ, List.set_cons_zero, List.set_cons_succ, Option.some.injEq, exists_eq_left, exists_eq_left', V.int.injEq, V.bl.injEq, V.str.injEq, V.ref.injEq,
  uAdd_int, uAdd_str, uSub_int, uMul_int, uMul_str, uDiv_int, uMod_int, uPow_int, uLt_int, uLe_int, uGt_int, uGe_int, uIs_non, uNis_non, uIs_bl, uNis_bl, sp1, sp2, sp3, sp4, uEq_int, uEq_str, uNe_int, uNe_str, uSl_str, uLen_str, decide_eq_true_eq])
local macro_rules | `(tactic| walk_at "s") => `(tactic| ((try dsimp only [turnE]); with_reducible refine seq_ ?_))

include F in
theorem read__law_word (h : sp__law_word K vs H Q E) : t__law_word K E { nx := fun _ H' => Q .non H', rt := Q } (start ["_law_box_here", "_law_size_here", "_law_crate"] vs) H := by
  match vs, h with
  | [_, _], ⟨b, m, n, rfl, rfl, hn, hb, hm, q⟩ =>
    unfold t__law_word sp__law_take
    simp only [tRet, tJoin, tM1, tC]
    refine ⟨⟨_, rfl⟩, ?_⟩
    refine tLc_rng1 (n := n) (fun R r => by
      walk_at "w"
      exact r) (by omega) fun D hD => ?_
    obtain ⟨l0, hb0⟩ := hb.at_
    have hDb : D ≠ b := by rintro rfl; rw [hD] at hb0; cases hb0
    refine lc_plain plain_R (fun i H' => ∃ ds, ds.length = i ∧ D3 ds ∧ H' D = some (.lst (ds.map fun d => V.str (pl d))) ∧ Bx H' b (m + i) ∧ Off b H H') ⟨[], rfl, (fun d z => nomatch z), upd_same, (hb.same (same_new hD)).mono (by omega), Same.off (same_new hD)⟩ (fun _ _ _ => trivial) ?_ ?_
    · rintro i x H1 hx ⟨ds, h1, h2, h3, h4, h5⟩
      have lt : i < n := by have := (List.getElem?_eq_some_iff.mp hx).1; simpa [intsL] using this
      simp only [lcT, wipe]
      walk_at "w"
      refine ⟨trivial, ?_⟩
      simp only [tYes, if_true]
      walk_at "w"
      refine ⟨b, m + i, 3, rfl, rfl, by omega, by omega, h4, by omega, fun d H2 d0 d1 o2 b2 => ?_⟩
      refine abc_at d0 d1 ⟨_, o2.lst h3 hDb, ?_, ds ++ [d.toNat], ?_, ?_, ?_, ?_, ?_⟩
      · rw [List.length_map, h1]
        exact Nat.lt_of_lt_of_le (show _ < 61 by omega) (by decide)
      · simp [h1]
      · intro e m
        rcases List.mem_append.mp m with m | m
        · exact h2 e m
        · have := List.mem_singleton.mp m
          omega
      · rw [upd_same]
        simp
      · exact Bx.upd (b2.mono (by omega)) hDb
      · exact Off.new (h5.trans o2) hD
    · rintro H1 ⟨ds, h1, h2, h3, h4, h5⟩
      have hl : (intsL 0 n).length = n := by simp [intsL]
      rw [hl] at h1 h4
      refine ⟨_, D, ds.map pl, rfl, rfl, .inl (.inl (.inl ?_)), ?_, ?_⟩
      · rw [h3, List.map_map]
        rfl
      · have : ∀ l : List Nat, ((l.map pl).map (·.length)).sum = l.length := by
          intro l
          induction l with
          | nil => rfl
          | cons a l ih => simp only [List.map_cons, List.sum_cons, ih, List.length_cons]; show 1 + _ = _; omega
        rw [this, List.length_map, h1]
        show n + n * 0 ≤ _
        omega
      · rw [join_pl]
        exact q ds H1 h1 h2 h5 (h4.mono (by omega))
end
/-- a list under way, L, of lists of prices -/
def PI (H : Hp) (L b : Addr) (as : List Addr) (rows : List (List (Option Int))) : Prop := H L = some (.lst (as.map V.ref)) ∧ L ≠ b ∧ as.length = rows.length ∧ (∀ r ∈ rows, r.length = 6 ∧ r.all lowP = true) ∧
  ∀ (j : Nat) (a : Addr) (r : List (Option Int)), as[j]? = some a → rows[j]? = some r → H a = some (.lst (r.map pV)) ∧ a ≠ L ∧ a ≠ b
theorem PI.off {H H' : Hp} {L b : Addr} {as : List Addr} {rows : List (List (Option Int))} (h : PI H L b as rows) (o : Off b H H') : PI H' L b as rows := by
  obtain ⟨h1, h2, h3, h4, h5⟩ := h
  refine ⟨o _ _ h2 h1, h2, h3, h4, fun j a r z1 z2 => ?_⟩
  obtain ⟨k1, k2, k3⟩ := h5 j a r z1 z2
  exact ⟨o _ _ k3 k1, k2, k3⟩
theorem PI.put {H : Hp} {L b l : Addr} {as : List Addr} {rows : List (List (Option Int))} {o : HO} (h : PI H L b as rows) (n1 : l ≠ L) (n2 : l ∉ as) : PI (upd H l o) L b as rows := by
  obtain ⟨h1, h2, h3, h4, h5⟩ := h
  refine ⟨by rw [upd_ne n1.symm]; exact h1, h2, h3, h4, fun j a r z1 z2 => ?_⟩
  obtain ⟨k1, k2, k3⟩ := h5 j a r z1 z2
  exact ⟨by rw [upd_ne (by rintro rfl; exact n2 (List.mem_of_getElem? z1))]; exact k1, k2, k3⟩
theorem PI.fresh {H : Hp} {L b l : Addr} {as : List Addr} {rows : List (List (Option Int))} (h : PI H L b as rows) (hl : H l = none) : l ≠ L ∧ l ∉ as := by
  obtain ⟨h1, h2, h3, h4, h5⟩ := h
  refine ⟨(by rintro rfl; rw [h1] at hl; cases hl), fun m => ?_⟩
  obtain ⟨j, lt, e⟩ := List.mem_iff_getElem.mp m
  obtain ⟨k1, _⟩ := h5 j l rows[j] (by rw [← e]; exact List.getElem?_eq_getElem lt) (List.getElem?_eq_getElem (by omega))
  rw [k1] at hl
  cases hl
theorem PI.push {H : Hp} {L b l : Addr} {as : List Addr} {rows : List (List (Option Int))} {r : List (Option Int)} (h : PI H L b as rows) (hl : H l = some (.lst (r.map pV))) (n1 : l ≠ L) (n2 : l ≠ b) (h6 : r.length = 6) (ho : r.all lowP = true) :
    PI (upd H L (.lst ((as.map V.ref) ++ [.ref l]))) L b (as ++ [l]) (rows ++ [r]) := by
  obtain ⟨h1, h2, h3, h4, h5⟩ := h
  refine ⟨by rw [upd_same]; simp, h2, by simp [h3], fun x m => ?_, fun j a x z1 z2 => ?_⟩
  · rcases List.mem_append.mp m with m | m
    · exact h4 x m
    · rw [List.mem_singleton.mp m]
      exact ⟨h6, ho⟩
  · by_cases e : j < as.length
    · rw [List.getElem?_append_left e] at z1
      rw [List.getElem?_append_left (by omega)] at z2
      obtain ⟨k1, k2, k3⟩ := h5 j a x z1 z2
      exact ⟨by rw [upd_ne k2]; exact k1, k2, k3⟩
    · have e2 : j = as.length := by
        have := (List.getElem?_eq_some_iff.mp z1).1
        simp at this
        omega
      subst e2
      rw [List.getElem?_append_right (Nat.le_refl _), Nat.sub_self] at z1
      rw [List.getElem?_append_right (by omega), h3, Nat.sub_self] at z2
      cases z1
      cases z2
      exact ⟨by rw [upd_ne n1]; exact hl, n1, n2⟩
theorem PI.rowVL {K : PySem.W.Frag} {H : Hp} {L b : Addr} {as : List Addr} {rows : List (List (Option Int))} (h : PI H L b as rows) : RowVL K H (.ref L) rows := by
  obtain ⟨h1, h2, h3, h4, h5⟩ := h
  refine ⟨L, _, rfl, .inl (.inl h1), by simp [h3], fun i v r z1 z2 => ?_⟩
  rw [List.getElem?_map] at z1
  obtain ⟨a, z3, rfl⟩ := Option.map_eq_some_iff.mp z1
  exact ⟨a, rfl, .inl (.inl (.inl (h5 i a r z3 z2).1))⟩
theorem PI.rowV {K : PySem.W.Frag} {H : Hp} {L b : Addr} {as : List Addr} {rows : List (List (Option Int))} (h : PI H L b as rows) : RowV K H (.ref L) rows := by
  obtain ⟨h1, h2, h3, h4, h5⟩ := h
  refine ⟨L, _, rfl, .inl (.inl (.inl h1)), by simp [h3], fun i v r z1 z2 => ?_⟩
  rw [List.getElem?_map] at z1
  obtain ⟨a, z3, rfl⟩ := Option.map_eq_some_iff.mp z1
  exact ⟨a, rfl, .inl (.inl (.inl (h5 i a r z3 z2).1))⟩
theorem price_at {d e : Int} (hd : 0 ≤ d) (hd2 : d < 20) (h0 : 0 ≤ e) (h1 : e < 6) : ∃ p : Int, atI [V.int 1, .int 1, .int 2, .int 3, .int (1 + d), .int 100] e = some (.int p) ∧ 0 < p ∧ p ≤ 100 := by
  obtain rfl | rfl | rfl | rfl | rfl | rfl : e = 0 ∨ e = 1 ∨ e = 2 ∨ e = 3 ∨ e = 4 ∨ e = 5 := by omega
  all_goals exact ⟨_, rfl, by omega, by omega⟩
theorem odds_at {e : Int} (h0 : 0 ≤ e) (h1 : e < 5) : ∃ p : Int, atI [V.int 0, .int 0, .int 2, .int 4, .int 7] e = some (.int p) := by
  obtain rfl | rfl | rfl | rfl | rfl : e = 0 ∨ e = 1 ∨ e = 2 ∨ e = 3 ∨ e = 4 := by omega
  all_goals exact ⟨_, rfl⟩
section
variable {K : PySem.W.Frag} (F : KF K) {vs : List V} {H : Hp} {Q : VK} {E : XK}
local macro_rules | `(tactic| walk_at "w") => `(tactic| try simp only [turnE, lcT, Snoc, tRet, tRetN, tAndV, tOrV, tNotV, tCB, tCons, tVar, tNil, tC, tOp, tSeq, tAsg, gName, gSub, tIfS, tDrop, tFn, tTup, tLst, tNext, tB, tTest, tNot, tAnd, tOr, tIf, tChain, tUn, rU, tFld, tPart, tNoPart, L2.tSl, tBM, tPar, tPar3, tTruth, tDNewK,
  L2.start, List.map_cons, List.map_nil, List.length_cons, List.length_nil, List.replicate_succ, List.replicate_zero, List.append_nil, List.nil_append, List.cons_append, List.singleton_append, Nat.sub_self, Nat.zero_add, Nat.reduceAdd, Nat.reduceSub,
  List.getElem?_cons_zero, List.getElem?_cons_succ, List.set_cons_zero, List.set_cons_succ, Option.some.injEq, exists_eq_left, exists_eq_left', V.int.injEq, V.bl.injEq, V.str.injEq, V.ref.injEq,
  uAdd_int, uAdd_str, uSub_int, uMul_int, uMul_str, uDiv_int, uMod_int, uPow_int, uLt_int, uLe_int, uGt_int, uGe_int, uIs_non, uNis_non, uIs_bl, uNis_bl, sp1, sp2, sp3, sp4, uEq_int, uEq_str, uNe_int, uNe_str, uSl_str, uLen_str, decide_eq_true_eq])
local macro_rules | `(tactic| walk_at "1") => `(tactic| try simp only [turnE, lcT, Snoc, tRet, tRetN, tAndV, tOrV, tNotV, tCB, tCons, tVar, tNil, tC, tOp, tAsg, gName, gSub, tIfS, tDrop, tFn, tTup, tLst, tNext, tB, tTest, tNot, tAnd, tOr, tIf, tChain, tUn, rU, tFld, tPart, tNoPart, L2.tSl, tBM, tPar, tPar3, tTruth, tDNewK,
  L2.start, List.map_cons, List.map_nil, List.length_cons, List.length_nil, List.replicate_succ, List.replicate_zero, List.append_nil, List.nil_append, List.cons_append, List.singleton_append, Nat.sub_self, Nat.zero_add, Nat.reduceAdd, Nat.reduceSub,
  List.getElem?_cons_zero, List.getElem?_cons_succ, List.set_cons_zero, List.set_cons_succ, Option.some.injEq, exists_eq_left, exists_eq_left', V.int.injEq, V.bl.injEq, V.str.injEq, V.ref.injEq,
  uAdd_int, uAdd_str, uSub_int, uMul_int, uMul_str, uDiv_int, uMod_int, uPow_int, uLt_int, uLe_int, uGt_int, uGe_int, uIs_non, uNis_non, uIs_bl, uNis_bl, sp1, sp2, sp3, sp4, uEq_int, uEq_str, uNe_int, uNe_str, uSl_str, uLen_str, decide_eq_true_eq])
local macro_rules | `(tactic| walk_at "s") => `(tactic| ((try dsimp only [turnE]); with_reducible refine seq_ ?_))

theorem tyL {l : Addr} {xs : List V} (h : H l = some (.lst xs)) : tyV K "list" (.ref l) H := Or.inl ⟨rfl, xs, .inl (.inl h)⟩
theorem app_of {l : Addr} {xs : List V} {y : V} (h : H l = some (.lst xs)) (hx : xs.length ≤ 100000) (q : Q .non (upd H l (.lst (xs ++ [y])))) : rAppend (.ref l) [y] H Q := ⟨l, xs, y, rfl, rfl, h, Nat.lt_of_lt_of_le (show xs.length < 100001 by omega) (by decide), q⟩
theorem take_of {b : Addr} {m k : Int} (hb : Bx H b m) (hm : m ≤ 1000000000) (h0 : 0 < k) (h1 : k ≤ 1000000000) (q : ∀ d H', 0 ≤ d → d < k → Off b H H' → Bx H' b (m + 1) → Q (.int d) H') : sp__law_take K [.ref b, .int k] H Q E :=
  ⟨b, m, k, rfl, rfl, h0, h1, hb, hm, q⟩
theorem plain_s3 {b l : Addr} {x1 x3 x4 x5 x6 x8 : Option V} {od p : Int} {M : Int} {xs : List V} {D : Ends} {H : Hp} (hb : Bx H b M) (hM : M ≤ 1000000000) (hl : H l = some (.lst xs)) (hx : xs.length ≤ 100000) (hlb : l ≠ b)
    (q : ∀ v H', v = .non ∨ v = .int p → Off b H H' → Bx H' b (M + 1) → D.nx [some (.ref b), x1, some (.int od), x3, x4, x5, x6, some (.ref l), x8, some (.int p)] (upd H' l (.lst (xs ++ [v])))) :
    tDrop (tBM K "list" rAppend (tVar 7) (tCons (tIf (tTest (tOp uLt (tFn (sp__law_take K) E (tCons (tVar 0) (tCons (tC (.int 20)) tNil))) (tVar 2))) (tC .non) (tVar 9)) tNil)) D [some (.ref b), x1, some (.int od), x3, x4, x5, x6, some (.ref l), x8, some (.int p)] H := by
  walk_at "1"
  refine ⟨tyL hl, take_of hb hM (by omega) (by omega) fun d H1 d0 d1 o1 b1 => ?_⟩
  have hl1 := o1.lst hl hlb
  walk_at "1"
  by_cases e : d < od
  · rw [if_pos e]
    exact app_of hl1 hx (q _ _ (.inl rfl) o1 b1)
  · rw [if_neg e]
    exact app_of hl1 hx (q _ _ (.inr rfl) o1 b1)
theorem plain_s2 {b : Addr} {x1 x2 x5 x6 x7 x8 : Option V} {gr fl : Bool} {p : Int} {M : Int} {D : Ends} {H : Hp} (hb : Bx H b M) (hM : M ≤ 1000000000) (h0 : 0 < p) (h1 : p ≤ 100)
    (q : ∀ p' H', 0 < p' ∧ p' < 10 ^ 32 → Off b H H' → Bx H' b (M + 1) → D.nx [some (.ref b), x1, x2, some (.bl gr), some (.bl fl), x5, x6, x7, x8, some (.int p')] H') :
    tAsg (tIf (tAnd (tTruth K (tVar 3)) (tNot (tTruth K (tVar 4)))) (tOp uAdd (tOp uMul (tVar 9) (tOp uPow (tC (.int 10)) (tC (.int 27)))) (tFn (sp__law_take K) E (tCons (tVar 0) (tCons (tC (.int 9)) tNil)))) (tVar 9)) (gName 9)
      D [some (.ref b), x1, x2, some (.bl gr), some (.bl fl), x5, x6, x7, x8, some (.int p)] H := by
  have hb' := hb.mono (n := M + 1) (by omega)
  walk_at "1"
  refine ⟨gr, rfl, ?_⟩
  cases gr with
  | false => exact q p H ⟨h0, by omega⟩ Off.refl hb'
  | true =>
    simp only [if_true]
    refine ⟨fl, rfl, ?_⟩
    cases fl with
    | true => exact q p H ⟨h0, by omega⟩ Off.refl hb'
    | false =>
      simp only [if_true, Bool.not_false]
      walk_at "1"
      refine ⟨⟨by omega, by omega, by omega⟩, .inl (by omega), take_of hb hM (by omega) (by omega) fun d H1 d0 d1 o1 b1 => ?_⟩
      walk_at "1"
      refine q _ _ ?_ o1 b1
      have t : (10 : Int) ^ Int.toNat 27 = 1000000000000000000000000000 := by decide
      rw [t]
      have t2 : (10 : Int) ^ 32 = 100000000000000000000000000000000 := by decide
      rw [t2]
      omega
theorem plain_s1 {b : Addr} {x1 x2 x3 x5 x6 x7 x8 x9 : Option V} {fl : Bool} {M : Int} {D : Ends} {H : Hp} (hb : Bx H b M) (hM : M ≤ 100000000)
    (q : ∀ p' H', 0 < p' → p' ≤ 100 → Off b H H' → Bx H' b (M + 2) → D.nx [some (.ref b), x1, x2, x3, some (.bl fl), x5, x6, x7, x8, some (.int p')] H') :
    tAsg (tOp (uIx K) (tLst (tCons (tC (.int 1)) (tCons (tC (.int 1)) (tCons (tC (.int 2)) (tCons (tC (.int 3)) (tCons (tOp uAdd (tC (.int 1)) (tFn (sp__law_take K) E (tCons (tVar 0) (tCons (tC (.int 20)) tNil)))) (tCons (tC (.int 100)) tNil)))))))
      (tIf (tTruth K (tVar 4)) (tC (.int 0)) (tFn (sp__law_take K) E (tCons (tVar 0) (tCons (tC (.int 6)) tNil))))) (gName 9) D [some (.ref b), x1, x2, x3, some (.bl fl), x5, x6, x7, x8, x9] H := by
  walk_at "1"
  refine take_of hb (by omega) (by omega) (by omega) fun e H1 e0 e1 o1 b1 => ?_
  walk_at "1"
  refine ⟨by decide, fun A hA => ?_⟩
  have hAb : A ≠ b := by
    obtain ⟨l0, hb0⟩ := b1.at_
    rintro rfl
    rw [hA] at hb0
    cases hb0
  have s2 : Same H1 (upd H1 A (.lst [.int 1, .int 1, .int 2, .int 3, .int (1 + e), .int 100])) := same_new hA
  have h2 : upd H1 A (.lst [.int 1, .int 1, .int 2, .int 3, .int (1 + e), .int 100]) A = some (.lst [.int 1, .int 1, .int 2, .int 3, .int (1 + e), .int 100]) := upd_same
  generalize upd H1 A (.lst [.int 1, .int 1, .int 2, .int 3, .int (1 + e), .int 100]) = H2 at *
  have q2 : Off b H H2 := o1.trans (Same.off s2)
  have b2 := b1.same s2
  refine ⟨fl, rfl, ?_⟩
  cases fl with
  | true =>
    simp only [if_true]
    exact uIx_lst h2 rfl (q _ _ (by omega) (by omega) q2 (b2.mono (by omega)))
  | false =>
    simp only [if_false, Bool.false_eq_true]
    refine take_of b2 (by omega) (by omega) (by omega) fun d H3 d0 d1 o3 b3 => ?_
    obtain ⟨p, hp, p0, p1⟩ := price_at e0 e1 d0 d1
    exact uIx_lst (o3.lst h2 hAb) hp (q _ _ p0 p1 (q2.trans o3) (b3.mono (by omega)))
include F in
theorem read__law_plain (h : sp__law_plain K vs H Q E) : t__law_plain K E { nx := fun _ H' => Q .non H', rt := Q } (start ["_law_box_here", "_law_size_here", "_law_odds", "_law_great", "_law_flat", "_law_found", "_law_crate", "_law_line", "_law_way", "_law_price"] vs) H := by
  match vs, h with
  | [_, _], ⟨b, m, n, rfl, rfl, hn1, hn, hb, hm, q⟩ =>
    unfold t__law_plain
    walk_at "w"
    refine ⟨by decide, fun A hA => ?_⟩
    have hAb : A ≠ b := by
      obtain ⟨l0, hb0⟩ := hb.at_
      rintro rfl
      rw [hA] at hb0
      cases hb0
    refine take_of (m := m) (hb.upd hAb) (by omega) (by omega) (by omega) fun d H1 d0 d1 o1 b1 => ?_
    obtain ⟨od, hod⟩ := odds_at d0 d1
    refine uIx_lst (o1.lst upd_same hAb) hod ?_
    have o1 : Off b H H1 := Off.trans (Off.new Off.refl hA) o1
    refine take_of b1 (by omega) (by omega) (by omega) fun d2 H2 d20 d21 o2 b2 => ?_
    walk_at "w"
    refine take_of b2 (by omega) (by omega) (by omega) fun d3 H3 d30 d31 o3 b3 => ?_
    walk_at "w"
    refine ⟨by decide, fun L hL => ?_⟩
    have o3 : Off b H H3 := (o1.trans o2).trans o3
    have hLb : L ≠ b := by
      obtain ⟨l0, hb0⟩ := b3.at_
      rintro rfl
      rw [hL] at hb0
      cases hb0
    refine ⟨_, _, _, rfl, ?_⟩
    walk_at "w"
    generalize decide (d2 = 0) = gr
    generalize decide (d3 = 0) = fl
    have hL0 : H L = none := Off.free o3 hLb hL
    have oL : Off b H (upd H3 L (.lst [])) := Off.new o3 hL0
    refine for_rng1 (n := n) (fun R r => by
      walk_at "w"
      exact r) (by omega) (fun i σ H' => ∃ as rows o6 o7 o8 o9, σ = [some (.ref b), some (.int n), some (.int od), some (.bl gr), some (.bl fl), some (.ref L), o6, o7, o8, o9] ∧ PI H' L b as rows ∧ rows.length = i ∧ Bx H' b (m + 3 + 24 * i) ∧ Off b H H')
      ⟨[], [], none, none, none, none, rfl, ⟨upd_same, hLb, rfl, (fun r m => nomatch m), fun j a r z => nomatch z⟩, rfl, (b3.upd hLb).mono (by omega), oL⟩ ?_ ?_
    · rintro i σ H4 hi ⟨as, rows, o6, o7, o8, o9, rfl, hp, hr, hb4, ho4⟩
      walk_at "w"
      refine ⟨by decide, fun l hl => ?_⟩
      obtain ⟨hlL, hla⟩ := hp.fresh hl
      have hlb : l ≠ b := by
        obtain ⟨l0, hb0⟩ := hb4.at_
        rintro rfl
        rw [hl] at hb0
        cases hb0
      refine for_rng1 (n := 6) (fun R r => by
        walk_at "w"
        exact r) (by omega) (fun j σ H' => ∃ r o8 o9, σ = [some (.ref b), some (.int n), some (.int od), some (.bl gr), some (.bl fl), some (.ref L), some (.int i), some (.ref l), o8, o9] ∧ H' l = some (.lst (r.map pV)) ∧ r.length = j ∧ r.all lowP = true ∧ PI H' L b as rows ∧ Bx H' b (m + 3 + 24 * i + 4 * j) ∧ Off b H H')
        ⟨[], o8, o9, rfl, upd_same, rfl, rfl, hp.put hlL hla, (hb4.upd hlb).mono (by omega), ho4.trans (Same.off (same_new hl))⟩ ?_ ?_
      · rintro j σ H5 hj ⟨r, p8, p9, rfl, g1, g2, g3, g4, g5, g6⟩
        simp only [gName, List.set_cons_zero, List.set_cons_succ]
        rw [tSeq]
        refine plain_s1 g5 (by omega) fun p H6 p0 p1 o6 b6 => ?_
        show tSeq _ _ _ _ _
        rw [tSeq]
        refine plain_s2 b6 (by omega) p0 p1 fun p H7 p0 o7 b7 => ?_
        have o57 := o6.trans o7
        refine plain_s3 b7 (by omega) (o57.lst g1 hlb) (by rw [List.length_map, g2]; omega) hlb fun v H8 hv o8 b8 => ?_
        have o58 := o57.trans o8
        have hv2 : ∃ w, v = pV w ∧ lowP w = true := by
          rcases hv with rfl | rfl
          · exact ⟨none, rfl, rfl⟩
          · exact ⟨some p, rfl, decide_eq_true p0⟩
        obtain ⟨w, rfl, hw⟩ := hv2
        refine ⟨r ++ [w], _, _, rfl, by rw [upd_same]; simp, by simp [g2], by simp [g3, hw], (g4.off o58).put hlL hla, Bx.upd (b8.mono (by omega)) hlb, Off.new (g6.trans o58) ?_⟩
        exact Off.free (ho4) hlb hl
      · rintro σ H5 ⟨r, p8, p9, rfl, g1, g2, g3, g4, g5, g6⟩
        walk_at "w"
        refine ⟨tyL g4.1, app_of g4.1 (by rw [List.length_map, g4.2.2.1]; omega) ?_⟩
        exact ⟨as ++ [l], rows ++ [r], _, _, _, _, rfl, g4.push g1 hlL hlb g2 g3, by simp [hr], Bx.upd (g5.mono (by omega)) hLb, Off.new g6 hL0⟩
    · rintro σ H4 ⟨as, rows, o6, o7, o8, o9, rfl, hp, hr, hb4, ho4⟩
      walk_at "w"
      exact q rows _ _ hr ⟨by omega, by omega, fun r m => ⟨(hp.2.2.2.1 r m).1, lowL_ok (hp.2.2.2.1 r m).2⟩⟩ hp.rowV ho4 (hb4.mono (by omega)) (fun r m => (hp.2.2.2.1 r m).2) hp.rowVL
end
/-! ### what the laws' own `law` share -/
theorem d3_rep {n d : Nat} (h : d < 3) : D3 (List.replicate n d) := fun e m => by rw [List.eq_of_mem_replicate m]; exact h
theorem Bx.ne {H : Hp} {b : Addr} {m : Int} {l : Addr} (h : Bx H b m) (hl : H l = none) : l ≠ b := by
  obtain ⟨l0, hb0⟩ := h.at_
  rintro rfl
  rw [hl] at hb0
  cases hb0
/-- how many cells a law looks at -/
theorem most_of (n : Nat) (lim : Int) (hl : lim ≤ 100) : ∃ N : Nat, N ≤ 100 ∧ (if (if (n : Int) < lim then (n : Int) else lim) > 2 then (if (n : Int) < lim then (n : Int) else lim) else 2) = (N : Int) := by
  refine ⟨(if (if (n : Int) < lim then (n : Int) else lim) > 2 then (if (n : Int) < lim then (n : Int) else lim) else 2).toNat, ?_, ?_⟩
  · split <;> split <;> omega
  · split <;> split <;> omega
def sp_law0 (K : PySem.W.Frag) : Sp := sp1 fun x H Q _ => ∃ (a : Addr) (ns : List Int), x = .ref a ∧ SqL K H a (ns.map V.int) ∧ ∀ H', Q (.bl true) H'
theorem make_yard {K : PySem.W.Frag} {H : Hp} {E : XK} {rows : List (List (Option Int))} {v : V} {Q : Addr → Hp → Prop} (hr : RowV K H v rows) (ho : RowsOk rows) (q : ∀ x H', Same H H' → H x = none → Yd K H' x rows → Q x H') :
    ∀ x dx, H x = none → H dx = none → dx ≠ x → sp_Yard_init K [.ref x, v] (upd (upd H dx (.own x)) x (.ins (He.ga K "Yard") dx [])) (fun v H2 => v = .non ∧ Q x H2) E := by
  intro x dx hx hdx hne
  have s1 : Same H (upd H dx (.own x)) := same_new hdx
  have hx1 : upd H dx (.own x) x = none := by rw [upd_ne hne.symm]; exact hx
  have s2 : Same (upd H dx (.own x)) (upd (upd H dx (.own x)) x (.ins (He.ga K "Yard") dx [])) := same_new hx1
  refine ⟨x, dx, rfl, upd_same, .inl ⟨rows, hr.same (s1.trans s2), ho, fun H' o hy _ => ⟨rfl, q x H' ?_ hx hy⟩⟩⟩
  exact Off.same (Off.trans (Same.off (s1.trans s2)) o) hx
end U
namespace U
open PySem PySem.Spec PyProof.Rows L2

/-! ### data by the length of its text -/
/-- shown in at most B signs, at most D deep -/
def Slim (B D : Nat) (d : PyData) : Prop := d.showable = true ∧ d.depth ≤ D ∧ d.shown.length ≤ B ∧ fine d = true
theorem Slim.mono {B D B' D' : Nat} {d : PyData} (h : Slim B D d) (hb : B ≤ B') (hd : D ≤ D') : Slim B' D' d := ⟨h.1, Nat.le_trans h.2.1 hd, Nat.le_trans h.2.2.1 hb, h.2.2.2⟩
theorem slim_list {ds : List PyData} {B D n : Nat} (h : ∀ d ∈ ds, Slim B D d) (hn : ds.length ≤ n) : Slim ((B + 2) * n + 3) (D + 1) (.list ds) := by
  have key : ∀ l : List PyData, (∀ d ∈ l, Slim B D d) → PyData.showableAll l = true ∧ PyData.depthAll l ≤ D ∧ ((PyData.shownAll l).map (·.length)).sum ≤ B * l.length ∧ fineAll l = true := by
    intro l
    induction l with
    | nil => intro _; exact ⟨by simp [PyData.showableAll], by simp [PyData.depthAll], by simp [PyData.shownAll], by simp [fineAll]⟩
    | cons x r ih =>
      intro h
      obtain ⟨a1, a2, a3, a4⟩ := h x List.mem_cons_self
      obtain ⟨b1, b2, b3, b4⟩ := ih fun d m => h d (List.mem_cons_of_mem _ m)
      refine ⟨?_, ?_, ?_, ?_⟩
      · rw [PyData.showableAll, a1, b1]; rfl
      · rw [PyData.depthAll]; exact Nat.max_le.mpr ⟨a2, b2⟩
      · rw [PyData.shownAll, List.map_cons, List.sum_cons, List.length_cons, Nat.mul_succ]; omega
      · rw [fineAll, a4, b4]; rfl
  obtain ⟨k1, k2, k3, k4⟩ := key ds h
  refine ⟨?_, ?_, ?_, ?_⟩
  · rw [PyData.showable]; exact k1
  · rw [PyData.depth]; omega
  · have a := listText_len_le (PyData.shownAll ds)
    have c := PyData.shownAll_length ds
    have e : (PyData.list ds).shown = listText (PyData.shownAll ds) := by simp only [PyData.shown]
    have m1 : (B + 2) * ds.length ≤ (B + 2) * n := Nat.mul_le_mul_left _ hn
    rw [e]
    rw [Nat.add_mul] at m1
    rw [Nat.add_mul]
    rw [Nat.add_mul] at m1
    omega
  · rw [fine]; exact k4
section
variable {K : PySem.W.Frag} {H : Hp}
theorem dq_all {α : Type} {f : α → V} {g : α → PyData} : ∀ {l : List α}, (∀ x ∈ l, Dq K H (f x) (g x)) → DqAll K H (l.map f) (l.map g)
  | [], _ => .qnil
  | x :: r, h => .qcons (h x List.mem_cons_self) (dq_all fun y m => h y (List.mem_cons_of_mem _ m))
def slimB (B D : Nat) (d : PyData) : Bool := d.showable && decide (d.depth ≤ D) && decide (d.shown.length ≤ B) && fine d
theorem slimB_ok {B D : Nat} {d : PyData} (h : slimB B D d = true) : Slim B D d := by
  unfold slimB at h
  simp only [Bool.and_eq_true, decide_eq_true_eq, and_assoc] at h
  exact h
theorem slim_str {z : Str} {n : Nat} (ok : ∀ c ∈ z.cps.toList, c < 1000) (len : z.length ≤ n) : Slim (10 * n + 2) 1 (.str z) := by
  refine ⟨by simp [PyData.showable], by simp [PyData.depth], ?_, ?_⟩
  · rw [PyData.shown_str]
    have := StrLaws.reprText_len z fun c m => Nat.lt_trans (ok c m) (by decide)
    omega
  · rw [fine]
    exact repr_ok fun c m => Nat.lt_trans (ok c m) (by decide)
theorem slim_two {B D : Nat} {d e : PyData} (h1 : Slim B D d) (h2 : Slim B D e) : Slim ((B + 2) * 2 + 3) (D + 1) (.list [d, e]) :=
  slim_list (n := 2) (fun x m => by
    rcases List.mem_cons.mp m with rfl | m
    · exact h1
    · rw [List.mem_singleton.mp m]
      exact h2) (Nat.le_refl _)
end
end U
namespace U
open PySem PySem.Spec PyProof.Rows L2

/-! ### the doors by their numbers -/
def Ask (K : PySem.W.Frag) (H : Hp) (y x z : V) (Q : VK) (E : XK) : Nat → Prop
  | 0 => sp_fits K [y, x, z] H Q E
  | 1 => sp_cost_from K [y, x, z] H Q E
  | 2 => sp_nearest_start K [y, x, z] H Q E
  | 3 => sp_how_many_fit K [y, x] H Q E
  | 4 => sp_cost_to K [y, z, x] H Q E
  | 5 => sp_nearest K [y, z, x] H Q E
  | 6 => sp_how_many_nearest K [y, z, x] H Q E
  | 7 => sp_cost_between K [y, x, z] H Q E
  | 8 => sp_pair_between K [y, x, z] H Q E
  | 9 => sp_home_costs K [y, x, z] H Q E
  | 10 => sp_home_within K [y, x, z, .non] H Q E
  | _ => sp_is_pattern K [y, x] H Q E
def sp__law_asked (K : PySem.W.Frag) : Sp := sp4 fun w y x z H Q E => ∃ i : Nat, w = .int (i : Nat) ∧ i ≤ 11 ∧ Ask K H y x z Q E i
def excs : List (Str × Str) := [("InvalidYard", "yard"), ("InvalidPattern", "pattern"), ("InvalidArrangement", "word"), ("InvalidCount", "count")]
def wordOf (f : Str) : Str := (excs.lookup f).getD ""
/-- how a door ends: an exception Rx -/
def Out (K : PySem.W.Frag) (H : Hp) (y x z : V) (i : Nat) (Rx : Str → V → Hp → Prop) : Prop := ∀ (Q1 : VK) (E1 : XK), (∀ f v d H1, Rx f v H1 → H1 d = some (.xd [("value", v)]) → E1 (.ref (He.ga K f)) (some d) H1) → Ask K H y x z Q1 E1 i
def sp__law_caught (K : PySem.W.Frag) : Sp := sp4 fun w y x z H Q _ => ∃ (i : Nat) (Rx : Str → V → Hp → Prop), w = .int (i : Nat) ∧ i ≤ 11 ∧ Out K H y x z i Rx ∧
  ∀ f v H1, Rx f v H1 → f ∈ excN ∧ ∀ l H', Same H1 H' → H1 l = none → H' l = some (.lst [.str (wordOf f), v]) → Q (.ref l) H'
def t__law_asked (K : PySem.W.Frag) (E : XK) : TS := (tSeq (tIfS (tTest (tOp uLt (tVar 0) (tC (.int 4)))) (tSeq (tIfS (tTest (tOp (uEq K) (tVar 0) (tC (.int 0)))) (tRet (tFn (sp_fits K) E (tCons (tVar 1) (tCons (tVar 2) (tCons (tVar 3) tNil))))) tNext) (tSeq (tIfS (tTest (tOp (uEq K) (tVar 0) (tC (.int 1)))) (tRet (tFn (sp_cost_from K) E (tCons (tVar 1) (tCons (tVar 2) (tCons (tVar 3) tNil))))) tNext) (tRet (tIf (tTest (tOp (uEq K) (tVar 0) (tC (.int 2)))) (tFn (sp_nearest_start K) E (tCons (tVar 1) (tCons (tVar 2) (tCons (tVar 3) tNil)))) (tFn (sp_how_many_fit K) E (tCons (tVar 1) (tCons (tVar 2) tNil))))))) tNext) (tSeq (tIfS (tTest (tOp uLt (tVar 0) (tC (.int 7)))) (tSeq (tIfS (tTest (tOp (uEq K) (tVar 0) (tC (.int 4)))) (tRet (tFn (sp_cost_to K) E (tCons (tVar 1) (tCons (tVar 3) (tCons (tVar 2) tNil))))) tNext) (tRet (tIf (tTest (tOp (uEq K) (tVar 0) (tC (.int 5)))) (tFn (sp_nearest K) E (tCons (tVar 1) (tCons (tVar 3) (tCons (tVar 2) tNil)))) (tFn (sp_how_many_nearest K) E (tCons (tVar 1) (tCons (tVar 3) (tCons (tVar 2) tNil))))))) tNext) (tSeq (tIfS (tTest (tOp uLt (tVar 0) (tC (.int 9)))) (tRet (tIf (tTest (tOp (uEq K) (tVar 0) (tC (.int 7)))) (tFn (sp_cost_between K) E (tCons (tVar 1) (tCons (tVar 2) (tCons (tVar 3) tNil)))) (tFn (sp_pair_between K) E (tCons (tVar 1) (tCons (tVar 2) (tCons (tVar 3) tNil)))))) tNext) (tSeq (tIfS (tTest (tOp (uEq K) (tVar 0) (tC (.int 11)))) (tRet (tFn (sp_is_pattern K) E (tCons (tVar 1) (tCons (tVar 2) tNil)))) tNext) (tRet (tIf (tTest (tOp (uEq K) (tVar 0) (tC (.int 9)))) (tFn (sp_home_costs K) E (tCons (tVar 1) (tCons (tVar 2) (tCons (tVar 3) tNil)))) (tFn (sp_home_within K) E (tCons (tVar 1) (tCons (tVar 2) (tCons (tVar 3) (tCons (tC .non) tNil)))))))))))
def t__law_caught (K : PySem.W.Frag) (E : XK) : TS := (tSeq (tTry (fun cls d _ H => E cls d H) (fun W => (tDrop (tFnS (sp__law_asked K) W (tCons (tVar 0) (tCons (tVar 1) (tCons (tVar 2) (tCons (tVar 3) tNil))))))) [⟨(fun cls => PySem.W.exmOne K cls (.ref (He.ga K "InvalidYard"))), some 4, fun a cls d => (tRet (tLst (tCons (tC (.str "yard")) (tCons (tXv K a cls d "value" (tVar 4)) tNil))))⟩, ⟨(fun cls => PySem.W.exmOne K cls (.ref (He.ga K "InvalidPattern"))), some 4, fun a cls d => (tRet (tLst (tCons (tC (.str "pattern")) (tCons (tXv K a cls d "value" (tVar 4)) tNil))))⟩, ⟨(fun cls => PySem.W.exmOne K cls (.ref (He.ga K "InvalidArrangement"))), some 4, fun a cls d => (tRet (tLst (tCons (tC (.str "word")) (tCons (tXv K a cls d "value" (tVar 4)) tNil))))⟩, ⟨(fun cls => PySem.W.exmOne K cls (.ref (He.ga K "InvalidCount"))), some 4, fun a cls d => (tRet (tLst (tCons (tC (.str "count")) (tCons (tXv K a cls d "value" (tVar 4)) tNil))))⟩, ⟨(fun cls => PySem.W.exmOne K cls (.ref (He.ga K "CratesError"))), none, fun a cls d => (tRet (tLst (tCons (tC (.str "other")) tNil)))⟩]) (tRet (tLst (tCons (tC (.str "told")) tNil))))
section
variable {K : PySem.W.Frag} (F : KF K) (C : XF K "CratesError" excN) {vs : List V} {H : Hp} {Q : VK} {E : XK}
local macro_rules | `(tactic| walk_at "w") => `(tactic| try simp only [turnE, lcT, Snoc, tRet, tRetN, tAndV, tOrV, tNotV, tCB, tCons, tVar, tNil, tC, tOp, tSeq, tAsg, gName, gSub, tIfS, tDrop, tFn, tTup, tLst, tNext, tB, tTest, tNot, tAnd, tOr, tIf, tChain, tUn, rU, tFld, tPart, tNoPart, L2.tSl, tBM, tPar, tPar3, tTruth, tDNewK,
  L2.start, List.map_cons, List.map_nil, List.length_cons, List.length_nil, List.replicate_succ, List.replicate_zero, List.append_nil, List.nil_append, List.cons_append, List.singleton_append, Nat.sub_self, Nat.zero_add, Nat.reduceAdd, Nat.reduceSub,
  List.getElem?_cons_zero, List.getElem?_cons_succ, List.set_cons_zero, List.set_cons_succ, Option.some.injEq, exists_eq_left, exists_eq_left', V.int.injEq, V.bl.injEq, V.str.injEq, V.ref.injEq,
  uAdd_int, uAdd_str, uSub_int, uMul_int, uMul_str, uDiv_int, uMod_int, uPow_int, uLt_int, uLe_int, uGt_int, uGe_int, uIs_non, uNis_non, uIs_bl, uNis_bl, sp1, sp2, sp3, sp4, uEq_int, uEq_str, uNe_int, uNe_str, uSl_str, uLen_str, decide_eq_true_eq])
local macro_rules | `(tactic| walk_at "1") => `(tactic| try simp only [turnE, lcT, Snoc, tRet, tRetN, tAndV, tOrV, tNotV, tCB, tCons, tVar, tNil, tC, tOp, tAsg, gName, gSub, tIfS, tDrop, tFn, tTup, tLst, tNext, tB, tTest, tNot, tAnd, tOr, tIf, tChain, tUn, rU, tFld, tPart, tNoPart, L2.tSl, tBM, tPar, tPar3, tTruth, tDNewK,
  L2.start, List.map_cons, List.map_nil, List.length_cons, List.length_nil, List.replicate_succ, List.replicate_zero, List.append_nil, List.nil_append, List.cons_append, List.singleton_append, Nat.sub_self, Nat.zero_add, Nat.reduceAdd, Nat.reduceSub,
  List.getElem?_cons_zero, List.getElem?_cons_succ, List.set_cons_zero, List.set_cons_succ, Option.some.injEq, exists_eq_left, exists_eq_left', V.int.injEq, V.bl.injEq, V.str.injEq, V.ref.injEq,
  uAdd_int, uAdd_str, uSub_int, uMul_int, uMul_str, uDiv_int, uMod_int, uPow_int, uLt_int, uLe_int, uGt_int, uGe_int, uIs_non, uNis_non, uIs_bl, uNis_bl, sp1, sp2, sp3, sp4, uEq_int, uEq_str, uNe_int, uNe_str, uSl_str, uLen_str, decide_eq_true_eq])
local macro_rules | `(tactic| walk_at "s") => `(tactic| ((try dsimp only [turnE]); with_reducible refine seq_ ?_))

include F in
theorem read__law_asked (h : sp__law_asked K vs H Q E) : t__law_asked K E { nx := fun _ H' => Q .non H', rt := Q } (start ["_law_way", "_law_yard", "_law_one", "_law_other"] vs) H := by
  match vs, h with
  | [_, y, x, z], ⟨i, rfl, hi, h⟩ =>
    unfold t__law_asked
    obtain rfl | rfl | rfl | rfl | rfl | rfl | rfl | rfl | rfl | rfl | rfl | rfl : i = 0 ∨ i = 1 ∨ i = 2 ∨ i = 3 ∨ i = 4 ∨ i = 5 ∨ i = 6 ∨ i = 7 ∨ i = 8 ∨ i = 9 ∨ i = 10 ∨ i = 11 := by omega
    all_goals
      walk_at "w"
      repeat (first | rw [if_pos (by decide)] | rw [if_neg (by decide)])
      exact h
include C in
theorem is_exc {f c : Str} (hf : f ∈ excN) (hc : c ∈ excN) : PySem.W.exmOne K (.ref (He.ga K f)) (.ref (He.ga K c)) = some (decide (c = f)) := by
  have e2 := C.m f hf c (List.mem_cons_of_mem _ hc)
  have n : c ≠ ("CratesError" : Str) := by
    rintro rfl
    revert hc
    decide
  have e : decide (c = ("CratesError" : Str) ∨ c = f) = decide (c = f) := decide_eq_decide.mpr ⟨fun z => z.resolve_left n, .inr⟩
  exact e ▸ e2
include F C in
theorem read__law_caught (h : sp__law_caught K vs H Q E) : t__law_caught K E { nx := fun _ H' => Q .non H', rt := Q } (start ["_law_way", "_law_yard", "_law_one", "_law_other", "e"] vs) H := by
  match vs, h with
  | [_, y, x, z], ⟨i, Rx, rfl, hi, out, told⟩ =>
    unfold t__law_caught
    walk_at "s"
    simp only [tTry, tFnS, tCallS, wCl, undone, named, unnamed, WE]
    walk_at "1"
    simp only [tCallS]
    walk_at "1"
    refine ⟨i, rfl, hi, ?_⟩
    have end_ : ∀ {f w : Str} {v : V} {d a : Addr} {H1 : Hp}, w = wordOf f → f ∈ excN → H1 d = some (.xd [("value", v)]) → (∀ l H', Same H1 H' → H1 l = none → H' l = some (.lst [.str (wordOf f), v]) → Q (.ref l) H') →
        tXv K a (.ref (He.ga K f)) (some d) "value" (tVar 4) ([some (.int (i : Nat)), some y, some x, some z, none].set 4 (some (.ref a))) H1 fun x H1 => 2 ≤ sizeLine ∧ ∀ (p : Addr), H1 p = none → Q (.ref p) (upd H1 p (.lst [.str w, x])) := by
      intro f w v d a H1 ew hf hd q
      subst ew
      exact ⟨_, rfl, rfl, _, d, _, v, rfl, rfl, C.f _ hf, C.v _ hf, hd, rfl, by decide, fun l nl => q l _ (same_new nl) nl upd_same⟩
    refine out _ _ fun f v d H1 rx hd => ?_
    obtain ⟨hf, q⟩ := told f v H1 rx
    have hm : f = "InvalidYard" ∨ f = "InvalidPattern" ∨ f = "InvalidArrangement" ∨ f = "InvalidCount" := by
      unfold excN at hf
      simpa using hf
    have one : ∀ {g : Str}, g ∈ excN → g ≠ f → PySem.W.exmOne K (.ref (He.ga K f)) (.ref (He.ga K g)) = some false := fun hg n => by rw [is_exc C hf hg, decide_eq_false n]
    have two : PySem.W.exmOne K (.ref (He.ga K f)) (.ref (He.ga K f)) = some true := by rw [is_exc C hf hf, decide_eq_true rfl]
    (rcases hm with rfl | rfl | rfl | rfl)
    · exact ⟨true, two, fun _ a ha => end_ (by decide +kernel) hf hd q, fun z => nomatch z⟩
    · exact ⟨false, one (by decide) (by decide), (fun z => nomatch z), fun _ => ⟨true, two, fun _ a ha => end_ (by decide +kernel) hf hd q, fun z => nomatch z⟩⟩
    · exact ⟨false, one (by decide) (by decide), (fun z => nomatch z), fun _ => ⟨false, one (by decide) (by decide), (fun z => nomatch z), fun _ => ⟨true, two, fun _ a ha => end_ (by decide +kernel) hf hd q, fun z => nomatch z⟩⟩⟩
    · exact ⟨false, one (by decide) (by decide), (fun z => nomatch z), fun _ => ⟨false, one (by decide) (by decide), (fun z => nomatch z), fun _ => ⟨false, one (by decide) (by decide), (fun z => nomatch z), fun _ => ⟨true, two, fun _ a ha => end_ (by decide +kernel) hf hd q, fun z => nomatch z⟩⟩⟩⟩
end
end U
namespace U
open PySem PySem.Spec PyProof.Rows L2

/-! ### how the doors end -/
def RxS (H : Hp) (f : Str) (v : V) : Str → V → Hp → Prop := fun g w H1 => g = f ∧ (w = v ∧ Same H H1)
def OddA (K : PySem.W.Frag) (H : Hp) (n : Nat) (x : V) : Prop := ∃ b, Is K H x b ∧ (Short x ∧ arrB n x = false)
section
variable {K : PySem.W.Frag} (F : KF K) {H : Hp} {y x z : V} {i : Nat} {n : Nat}
theorem rz_of {f : Str} {v : V} {E1 : XK} (h : ∀ g w d H1, RxS H f v g w H1 → H1 d = some (.xd [("value", w)]) → E1 (.ref (He.ga K g)) (some d) H1) : Rz K f "value" v H E1 := fun d H' s n => h f v d _ ⟨rfl, rfl, s.trans (same_new n)⟩ upd_same
theorem OddA.no {E1 : XK} (h : OddA K H n x) (he : ∀ g w d H1, RxS H "InvalidArrangement" x g w H1 → H1 d = some (.xd [("value", w)]) → E1 (.ref (He.ga K g)) (some d) H1) : NoArr K H n x E1 := by
  obtain ⟨b, h1, h2, h3⟩ := h
  exact ⟨b, h1, h2, h3, rz_of he⟩
theorem out_yard (h : ∃ a, Is K H y a ∧ a ≠ .yard) (hi : i ≤ 11) : Out K H y x z i (RxS H "InvalidYard" y) := by
  intro Q1 E1 he
  obtain ⟨a, h1, h2⟩ := h
  have bad : BadY K H y E1 := ⟨a, h1, h2, rz_of he⟩
  match i, hi with
  | 0, _ => exact bad.or
  | 1, _ => exact bad.or
  | 2, _ => exact bad.or
  | 3, _ => exact bad.or
  | 4, _ => exact bad.or
  | 5, _ => exact bad.or
  | 6, _ => exact bad.or
  | 7, _ => exact bad.or
  | 8, _ => exact bad.or
  | 9, _ => exact .inl bad.or
  | 10, _ => exact .inl bad.or
  | 11, _ => exact bad.or
  | n + 12, hi => exact absurd hi (by omega)
variable {p : Addr} {rows : List (List (Option Int))}
include F
/-- no pattern, asked for first -/
theorem out_pat (hy : Yd K H p rows) (h : PatB K H rows.length x false) (hi : i = 0 ∨ i = 1 ∨ i = 2 ∨ i = 3 ∨ i = 7 ∨ i = 8) : Out K H (.ref p) x z i (RxS H "InvalidPattern" x) := by
  intro Q1 E1 he
  have no : NoPt K H rows.length x E1 := ⟨h, rz_of he⟩
  rcases hi with rfl | rfl | rfl | rfl | rfl | rfl <;> exact yardOr_of F hy (.inl no)
/-- a pattern, and no arrangement -/
theorem out_pw {qs : List (List Nat)} (hy : Yd K H p rows) (hp : Pt K H rows.length x qs) (h : OddA K H rows.length z) (hi : i = 0 ∨ i = 1 ∨ i = 2) : Out K H (.ref p) x z i (RxS H "InvalidArrangement" z) := by
  intro Q1 E1 he
  have no := h.no he
  rcases hi with rfl | rfl | rfl
  · exact yardOr_of F hy (.inr ⟨qs, hp, .inl no⟩)
  · exact yardOr_of F hy (.inr ⟨qs, hp, no⟩)
  · exact yardOr_of F hy (.inr ⟨qs, hp, no⟩)
/-- no arrangement, asked for first -/
theorem out_w (hy : Yd K H p rows) (h : OddA K H rows.length z) (hi : i = 4 ∨ i = 5 ∨ i = 6) : Out K H (.ref p) x z i (RxS H "InvalidArrangement" z) := by
  intro Q1 E1 he
  have no := h.no he
  rcases hi with rfl | rfl | rfl <;> exact yardOr_of F hy (.inl no)
/-- an arrangement, and no pattern -/
theorem out_wp {ds : List Nat} (hy : Yd K H p rows) (ha : Arr rows.length z ds) (h : PatB K H rows.length x false) (hi : i = 4 ∨ i = 5 ∨ i = 6) : Out K H (.ref p) x z i (RxS H "InvalidPattern" x) := by
  intro Q1 E1 he
  have no : NoPt K H rows.length x E1 := ⟨h, rz_of he⟩
  rcases hi with rfl | rfl | rfl <;> exact yardOr_of F hy (.inr ⟨ds, ha, no⟩)
/-- a pattern, and no other one -/
theorem out_pp {qs : List (List Nat)} (hy : Yd K H p rows) (hp : Pt K H rows.length x qs) (h : PatB K H rows.length z false) (hi : i = 7 ∨ i = 8) : Out K H (.ref p) x z i (RxS H "InvalidPattern" z) := by
  intro Q1 E1 he
  have no : NoPt K H rows.length z E1 := ⟨h, rz_of he⟩
  rcases hi with rfl | rfl <;> exact yardOr_of F hy (.inr ⟨qs, hp, no⟩)
/-- no arrangement to begin with -/
theorem out_a (hy : Yd K H p rows) (h : OddA K H rows.length x) (hi : i = 9 ∨ i = 10) : Out K H (.ref p) x z i (RxS H "InvalidArrangement" x) := by
  intro Q1 E1 he
  have no := h.no he
  rcases hi with rfl | rfl <;> exact .inl (yardOr_of F hy (.inl no))
/-- an arrangement, and no other one -/
theorem out_aa {ds : List Nat} (hy : Yd K H p rows) (ha : Arr rows.length x ds) (h : OddA K H rows.length z) (hi : i = 9 ∨ i = 10) : Out K H (.ref p) x z i (RxS H "InvalidArrangement" z) := by
  intro Q1 E1 he
  have no := h.no he
  rcases hi with rfl | rfl <;> exact .inl (yardOr_of F hy (.inr ⟨ds, ha, no⟩))
omit F in
/-- no cost -/
theorem out_cost {ds es : List Nat} (hy : YdK K H p rows) (ha : Arr rows.length x ds) (hb : Arr rows.length z es) : Out K H (.ref p) x z 10 (fun g w H1 => g = "InvalidCount" ∧ (w = .non ∧ ∃ H', Mild K p H H' ∧ (YdK K H' p rows ∧ Same H' H1))) := by
  intro Q1 E1 he
  exact .inr ⟨p, rows, ds, es, rfl, hy, ha, hb, fun _ _ => ⟨_, is_non⟩, fun _ H1 md hy1 d H' s n => he _ _ d _ ⟨rfl, rfl, H1, md, hy1, s.trans (same_new n)⟩ upd_same, fun k e => nomatch e⟩
end
/-! ### things -/
/-- what a thing is and how it is shown, whatever the box does -/
structure Thing (K : PySem.W.Frag) (b : Addr) (H : Hp) (v : V) (d : PyData) : Prop where
  q : ∀ H', Off b H H' → Dq K H' v d
  s : Slim 50000 8 d
theorem Thing.off {K : PySem.W.Frag} {b : Addr} {H H' : Hp} {v : V} {d : PyData} (h : Thing K b H v d) (e : Off b H H') : Thing K b H' v d := ⟨fun H2 e2 => h.q H2 (e.trans e2), h.s⟩
structure OddP (K : PySem.W.Frag) (b : Addr) (H : Hp) (n : Nat) (v : V) (d : PyData) : Prop where
  t : Thing K b H v d
  p : ∀ H', Off b H H' → PatB K H' n v false
structure OddW (K : PySem.W.Frag) (b : Addr) (H : Hp) (n : Nat) (v : V) (d : PyData) : Prop where
  t : Thing K b H v d
  p : ∀ H', Off b H H' → OddA K H' n v
theorem OddP.off {K : PySem.W.Frag} {b : Addr} {H H' : Hp} {n : Nat} {v : V} {d : PyData} (h : OddP K b H n v d) (e : Off b H H') : OddP K b H' n v d := ⟨h.t.off e, fun H2 e2 => h.p H2 (e.trans e2)⟩
theorem OddW.off {K : PySem.W.Frag} {b : Addr} {H H' : Hp} {n : Nat} {v : V} {d : PyData} (h : OddW K b H n v d) (e : Off b H H') : OddW K b H' n v d := ⟨h.t.off e, fun H2 e2 => h.p H2 (e.trans e2)⟩
section
variable {K : PySem.W.Frag} {H H' : Hp} {Q : VK} {E : XK}
theorem word_fine (f : Str) : Slim 50000 8 (.str (wordOf f)) := by
  unfold wordOf excs
  simp only [List.lookup]
  repeat' split
  all_goals exact slimB_ok (by decide +kernel)
/-- [w, v] in one list and in another: their texts -/
theorem show_pair {l : Addr} {w : Str} {v : V} {d : PyData} {R : VK} (hl : H l = some (.lst [.str w, v])) (hd : Dq K H v d) (hs : Slim 50000 8 d) (hw : Slim 50000 8 (.str w)) (q : R (.str (PyData.list [.str w, d]).shown) H) : uReprQ K [.ref l] H R := by
  have s2 := slim_two hw hs
  exact ⟨.ref l, .list [.str w, d], rfl, .qlst (.inl (.inl hl)) (.qcons (.qstr w) (.qcons hd .qnil)), s2.1, Nat.le_trans s2.2.1 (by decide), Nat.le_trans s2.2.2.1 (by decide), q⟩
/-- a door that refuses -/
theorem refused {y x z v : V} {i : Nat} {f : Str} (hf : f ∈ excN) (hi : i ≤ 11) (out : Out K H y x z i (RxS H f v)) (q : ∀ l H', Same H H' → H l = none → H' l = some (.lst [.str (wordOf f), v]) → Q (.ref l) H') : sp__law_caught K [.int (i : Nat), y, x, z] H Q E :=
  ⟨i, _, rfl, hi, out, fun g w H1 ⟨eg, ew, s1⟩ => by
    subst eg ew
    exact ⟨hf, fun l H' s2 nl gl => q l H' (s1.trans s2) (s1.free nl) gl⟩⟩
/-- what a piece of the law's texts gives, wherever it stands -/
def Ev (t : TE) (σ : L2.St) (v : V) : Prop := ∀ (H : Hp) (Q : VK), Q v H → t σ H Q
theorem ev_var {i : Nat} {σ : L2.St} {v : V} (h : σ[i]? = some (some v)) : Ev (tVar i) σ v := fun H Q q => ⟨v, h, q⟩
theorem ev_c {σ : L2.St} {v : V} : Ev (tC v) σ v := fun H Q q => q
theorem ev_call {σ : L2.St} {sp : Sp} {a b c d : TE} {v1 v2 v3 v4 : V} (h1 : Ev a σ v1) (h2 : Ev b σ v2) (h3 : Ev c σ v3) (h4 : Ev d σ v4) (q : sp [v1, v2, v3, v4] H Q E) : tFn sp E (tCons a (tCons b (tCons c (tCons d tNil)))) σ H Q :=
  h1 _ _ (h2 _ _ (h3 _ _ (h4 _ _ q)))
/-- repr(caught(way, ..)) != repr([word, v]) -/
theorem test_cr {σ : L2.St} {D : Ends} {tw tb tc td tv : TE} {y x z v : V} {f w : Str} {d : PyData} {i : Nat} (h1 : Ev tw σ (.int (i : Nat))) (h2 : Ev tb σ y) (h3 : Ev tc σ x) (h4 : Ev td σ z) (hv : Ev tv σ v)
    (hf : f ∈ excN) (hw : wordOf f = w) (hi : i ≤ 11) (out : Out K H y x z i (RxS H f v)) (b : Addr) (th : Thing K b H v d) (q : ∀ H', Same H H' → D.nx σ H') :
    tIfS (tTest (tOp (uNe K) (tCB (uReprQ K) (tCons (tFn (sp__law_caught K) E (tCons tw (tCons tb (tCons tc (tCons td tNil))))) tNil)) (tCB (uReprQ K) (tCons (tLst (tCons (tC (.str w)) (tCons tv tNil))) tNil)))) (tRet (tC (.bl false))) tNext D σ H := by
  subst hw
  refine ev_call h1 h2 h3 h4 (refused hf hi out fun l H1 s1 nl gl => ?_)
  have t1 := th.q H1 (Same.off s1)
  dsimp only [tNil]
  refine show_pair gl t1 th.s (word_fine f) ?_
  refine (show tv σ H1 _ from hv _ _ ?_)
  refine ⟨by show 2 ≤ sizeLine; decide, fun l2 nl2 => ?_⟩
  have s2 : Same H1 (upd H1 l2 (.lst [.str (wordOf f), v])) := same_new nl2
  dsimp only [tNil]
  refine show_pair upd_same (t1.same s2) th.s (word_fine f) ?_
  rw [uNe_str, decide_eq_true rfl]
  refine ⟨_, rfl, ?_⟩
  rw [if_neg (by decide)]
  exact q _ (s1.trans s2)
end
end U
namespace U
open PySem PySem.Spec PyProof.Rows L2

def pS (qs : List (List Nat)) : List V := qs.map fun q => V.str (wd q)
def PtN (qs : List (List Nat)) : Prop := ∀ q ∈ qs, q ∈ chN
def sp__law_pattern (_K : PySem.W.Frag) : Sp := sp2 fun x y H Q _ => ∃ (b : Addr) (m : Int) (n : Nat), x = .ref b ∧ y = .int n ∧ n ≤ 60 ∧ Bx H b m ∧ m ≤ 1000000 ∧ ∀ qs l H', qs.length = n → PtN qs → H' l = some (.lst (pS qs)) → l ≠ b → H l = none → Off b H H' → Bx H' b (m + 60) → Q (.ref l) H'
def sp__law_fits (K : PySem.W.Frag) : Sp := sp2 fun x y H Q _ => ∃ l qs ds, x = .ref l ∧ y = .str (wd ds) ∧ SqL K H l (pS qs) ∧ PtN qs ∧ D3 ds ∧ ds.length = qs.length ∧ qs.length ≤ 60 ∧ ∀ H', Same H H' → Q (.bl (fitsB qs ds)) H'
def sp__law_odd (K : PySem.W.Frag) : Sp := sp2 fun x y H Q _ => ∃ (b : Addr) (m : Int) (l : Addr) (qs : List (List Nat)), x = .ref b ∧ y = .ref l ∧ H l = some (.lst (pS qs)) ∧ l ≠ b ∧ PtN qs ∧ 1 ≤ qs.length ∧ qs.length ≤ 60 ∧ Bx H b m ∧ m ≤ 1000000 ∧
  ∀ v d H', Off b H H' → Bx H' b (m + 3) → OddP K b H' qs.length v d → Q v H'
def t__law_pattern (K : PySem.W.Frag) (E : XK) : TS := (tSeq (tAsg (tLst (tCons (tC (.str "a")) (tCons (tC (.str "b")) (tCons (tC (.str "c")) (tCons (tC (.str "ab")) (tCons (tC (.str "ac")) (tCons (tC (.str "bc")) (tCons (tC (.str "abc")) (tCons (tC (.str "abc")) (tCons (tC (.str "bc")) tNil)))))))))) (gName 2)) (tRet (tLc (iRng1 (tCons (tVar 1) tNil)) (gName 3) tYes (tOp (uIx K) (tVar 2) (tFn (sp__law_take K) E0 (tCons (tVar 0) (tCons (tC (.int 9)) tNil)))) [3])))
def t__law_fits (K : PySem.W.Frag) (E : XK) : TS := (tRet (tOp (uEq K) (tLc (iRng1 (tCons (tCB (uLen K) (tCons (tVar 1) tNil)) tNil)) (gName 2) (tTest (tOp (uIn K true) (tOp (uIx K) (tVar 1) (tVar 2)) (tOp (uIx K) (tVar 0) (tVar 2)))) (tVar 2) [2]) (tLst tNil)))
def t__law_odd (K : PySem.W.Frag) (E : XK) : TS := (tSeq (tAsg (tFn (sp__law_take K) E (tCons (tVar 0) (tCons (tCB (uLen K) (tCons (tVar 1) tNil)) tNil))) (gName 2)) (tSeq (tAsg (tOp (uIx K) (tLst (tCons (tC (.str "")) (tCons (tC (.str "ba")) (tCons (tC (.str "aa")) (tCons (tC (.str "d")) (tCons (tC (.str "abcd")) (tCons (tC (.str "a ")) (tCons (tC (.str "A")) (tCons (tC .non) (tCons (tC (.int 5)) (tCons (tLst (tCons (tC (.str "a")) tNil)) (tCons (tTup (tCons (tC (.str "a")) (tCons (tC (.str "b")) tNil))) (tCons (tC (.str "cb")) (tCons (tC (.bl true)) (tCons tDNewK tNil))))))))))))))) (tFn (sp__law_take K) E (tCons (tVar 0) (tCons (tC (.int 14)) tNil)))) (gName 3)) (tSeq (tAsg (tOp uAdd (tOp uAdd (tSl (uSl K) (tVar 1) tNoPart (tPart (tVar 2))) (tLst (tCons (tVar 3) tNil))) (tSl (uSl K) (tVar 1) (tPart (tOp uAdd (tVar 2) (tC (.int 1)))) tNoPart)) (gName 4)) (tSeq (tAsg (tLst (tCons (tVar 4) (tCons (tVar 4) (tCons (tVar 4) (tCons (tSl (uSl K) (tVar 1) tNoPart (tPart (tUn (rU fun i => .int (-i)) (tC (.int 1))))) (tCons (tOp uAdd (tVar 1) (tLst (tCons (tC (.str "a")) tNil))) (tCons (tC .non) (tCons (tC (.int 5)) (tCons (tC (.str "abc")) (tCons tDNewK (tCons (tC (.bl true)) (tCons (tLst tNil) (tCons (tLst (tCons (tVar 1) tNil)) tNil))))))))))))) (gName 5)) (tRet (tOp (uIx K) (tOp uAdd (tVar 5) (tLst (tCons (tOp uMul (tC (.str "a")) (tCB (uLen K) (tCons (tVar 1) tNil))) tNil))) (tFn (sp__law_take K) E (tCons (tVar 0) (tCons (tC (.int 13)) tNil)))))))))
theorem eq_ints {K : PySem.W.Frag} {H : Hp} {Q : VK} {p p' : Addr} {ns ms : List Int} (h : SqL K H p (ns.map V.int)) (h' : SqL K H p' (ms.map V.int)) (q : Q (.bl (decide (ns = ms))) H) : uEq K (.ref p) (.ref p') H Q := by
  refine ⟨_, _, dp_ints h, dp_ints h', PySem.W.ke_shaped_ints _, PySem.W.ke_shaped_ints _, ?_⟩
  rw [PyData.eqv, PySem.W.ked_eqvAll]
  exact q
section
variable {K : PySem.W.Frag} (F : KF K) {vs : List V} {H : Hp} {Q : VK} {E : XK}
local macro_rules | `(tactic| walk_at "w") => `(tactic| try simp only [turnE, lcT, Snoc, tRet, tRetN, tAndV, tOrV, tNotV, tCB, tCons, tVar, tNil, tC, tOp, tSeq, tAsg, gName, gSub, tIfS, tDrop, tFn, tTup, tLst, tNext, tB, tTest, tNot, tAnd, tOr, tIf, tChain, tUn, rU, tFld, tPart, tNoPart, L2.tSl, tBM, tPar, tPar3, tTruth, tDNewK,
  L2.start, List.map_cons, List.map_nil, List.length_cons, List.length_nil, List.replicate_succ, List.replicate_zero, List.append_nil, List.nil_append, List.cons_append, List.singleton_append, Nat.sub_self, Nat.zero_add, Nat.reduceAdd, Nat.reduceSub,
  List.getElem?_cons_zero, List.getElem?_cons_succ, List.set_cons_zero, List.set_cons_succ, Option.some.injEq, exists_eq_left, exists_eq_left', V.int.injEq, V.bl.injEq, V.str.injEq, V.ref.injEq,
  uAdd_int, uAdd_str, uSub_int, uMul_int, uMul_str, uDiv_int, uMod_int, uPow_int, uLt_int, uLe_int, uGt_int, uGe_int, uIs_non, uNis_non, uIs_bl, uNis_bl, sp1, sp2, sp3, sp4, uEq_int, uEq_str, uNe_int, uNe_str, uSl_str, uLen_str, decide_eq_true_eq])
local macro_rules | `(tactic| walk_at "1") => `(tactic| try simp only [turnE, lcT, Snoc, tRet, tRetN, tAndV, tOrV, tNotV, tCB, tCons, tVar, tNil, tC, tOp, tAsg, gName, gSub, tIfS, tDrop, tFn, tTup, tLst, tNext, tB, tTest, tNot, tAnd, tOr, tIf, tChain, tUn, rU, tFld, tPart, tNoPart, L2.tSl, tBM, tPar, tPar3, tTruth, tDNewK,
  L2.start, List.map_cons, List.map_nil, List.length_cons, List.length_nil, List.replicate_succ, List.replicate_zero, List.append_nil, List.nil_append, List.cons_append, List.singleton_append, Nat.sub_self, Nat.zero_add, Nat.reduceAdd, Nat.reduceSub,
  List.getElem?_cons_zero, List.getElem?_cons_succ, List.set_cons_zero, List.set_cons_succ, Option.some.injEq, exists_eq_left, exists_eq_left', V.int.injEq, V.bl.injEq, V.str.injEq, V.ref.injEq,
  uAdd_int, uAdd_str, uSub_int, uMul_int, uMul_str, uDiv_int, uMod_int, uPow_int, uLt_int, uLe_int, uGt_int, uGe_int, uIs_non, uNis_non, uIs_bl, uNis_bl, sp1, sp2, sp3, sp4, uEq_int, uEq_str, uNe_int, uNe_str, uSl_str, uLen_str, decide_eq_true_eq])
local macro_rules | `(tactic| walk_at "s") => `(tactic| ((try dsimp only [turnE]); with_reducible refine seq_ ?_))

theorem menu_at {e : Int} (h0 : 0 ≤ e) (h1 : e < 9) : ∃ q ∈ chN, atI [V.str "a", .str "b", .str "c", .str "ab", .str "ac", .str "bc", .str "abc", .str "abc", .str "bc"] e = some (.str (wd q)) := by
  obtain rfl | rfl | rfl | rfl | rfl | rfl | rfl | rfl | rfl : e = 0 ∨ e = 1 ∨ e = 2 ∨ e = 3 ∨ e = 4 ∨ e = 5 ∨ e = 6 ∨ e = 7 ∨ e = 8 := by omega
  · exact ⟨[0], by decide, by rfl⟩
  · exact ⟨[1], by decide, by rfl⟩
  · exact ⟨[2], by decide, by rfl⟩
  · exact ⟨[0, 1], by decide, by rfl⟩
  · exact ⟨[0, 2], by decide, by rfl⟩
  · exact ⟨[1, 2], by decide, by rfl⟩
  · exact ⟨[0, 1, 2], by decide, by rfl⟩
  · exact ⟨[0, 1, 2], by decide, by rfl⟩
  · exact ⟨[1, 2], by decide, by rfl⟩
include F in
theorem read__law_pattern (h : sp__law_pattern K vs H Q E) : t__law_pattern K E { nx := fun _ H' => Q .non H', rt := Q } (start ["_law_box_here", "_law_size_here", "_law_menu", "_law_crate"] vs) H := by
  match vs, h with
  | [_, _], ⟨b, m, n, rfl, rfl, hn, hb, hm, q⟩ =>
    unfold t__law_pattern sp__law_take
    walk_at "s"
    walk_at "1"
    refine ⟨by decide, fun M nM => ?_⟩
    have s0 : Same H (upd H M (.lst [V.str "a", .str "b", .str "c", .str "ab", .str "ac", .str "bc", .str "abc", .str "abc", .str "bc"])) := same_new nM
    have gM : upd H M (.lst [V.str "a", .str "b", .str "c", .str "ab", .str "ac", .str "bc", .str "abc", .str "abc", .str "bc"]) M = some (.lst [V.str "a", .str "b", .str "c", .str "ab", .str "ac", .str "bc", .str "abc", .str "abc", .str "bc"]) := upd_same
    have hMb := hb.ne nM
    have hb := hb.same s0
    generalize upd H M (.lst [V.str "a", .str "b", .str "c", .str "ab", .str "ac", .str "bc", .str "abc", .str "abc", .str "bc"]) = H0 at *
    refine tLc_rng1 (n := n) (fun R r => by
      walk_at "1"
      exact r) (by omega) fun D hD => ?_
    have hDb := hb.ne hD
    have hDM : D ≠ M := by rintro rfl; rw [gM] at hD; cases hD
    refine lc_plain plain_R (fun i H' => ∃ qs, qs.length = i ∧ PtN qs ∧ H' D = some (.lst (pS qs)) ∧ Bx H' b (m + i) ∧ Off b H0 H') ⟨[], rfl, (fun d z => nomatch z), upd_same, (hb.same (same_new hD)).mono (by omega), Same.off (same_new hD)⟩ (fun _ _ _ => trivial) ?_ ?_
    · rintro i x H1 hx ⟨qs, h1, h2, h3, h4, h5⟩
      have lt : i < n := by have := (List.getElem?_eq_some_iff.mp hx).1; simpa [intsL] using this
      simp only [lcT, wipe]
      walk_at "1"
      refine ⟨trivial, ?_⟩
      simp only [tYes, if_true]
      walk_at "1"
      refine ⟨b, m + i, 9, rfl, rfl, by omega, by omega, h4, by omega, fun d H2 d0 d1 o2 b2 => ?_⟩
      obtain ⟨q1, mq, hat⟩ := menu_at d0 d1
      refine uIx_lst (o2.lst (h5.lst gM hMb) hMb) hat ⟨_, o2.lst h3 hDb, ?_, qs ++ [q1], ?_, ?_, ?_, ?_, ?_⟩
      · unfold pS
        rw [List.length_map, h1]
        exact Nat.lt_of_lt_of_le (show _ < 61 by omega) (by decide)
      · simp [h1]
      · intro e me
        rcases List.mem_append.mp me with me | me
        · exact h2 e me
        · rw [List.mem_singleton.mp me]
          exact mq
      · rw [upd_same]
        simp [pS]
      · exact Bx.upd (b2.mono (by omega)) hDb
      · exact Off.new (h5.trans o2) hD
    · rintro H1 ⟨qs, h1, h2, h3, h4, h5⟩
      have hl : (intsL 0 n).length = n := by simp [intsL]
      rw [hl] at h1 h4
      exact q qs D H1 h1 h2 h3 hDb (s0.free hD) (Off.trans (Same.off s0) h5) (h4.mono (by omega))
include F in
theorem read__law_fits (h : sp__law_fits K vs H Q E) : t__law_fits K E { nx := fun _ H' => Q .non H', rt := Q } (start ["_law_pattern_here", "_law_word_here", "_law_crate"] vs) H := by
  match vs, h with
  | [_, _], ⟨l, qs, ds, rfl, rfl, hl, hq, h3, hn, h60, q⟩ =>
    unfold t__law_fits
    simp only [tRet, tOp]
    have hs : ∀ {H' : Hp}, Same H H' → SqL K H' l (pS qs) := fun s => Same.seq s hl
    refine tLc_rng1 (n := ds.length) (fun R r => by
      walk_at "1"
      refine ⟨by rw [wd_length, sizeLine_eq]; omega, ?_⟩
      rw [wd_length]
      exact r) (by omega) fun D hD => ?_
    refine lc_plain plain_R (fun i H' => Same H H' ∧ H' D = some (.lst (((List.range i).filter fun k => !decide ((ds[k]?).getD 0 ∈ (qs[k]?).getD [])).map fun k => V.int (k : Nat)))) ⟨same_new hD, upd_same⟩ (fun _ _ _ => trivial) ?_ ?_
    · rintro i x H1 hx ⟨s1, g1⟩
      have lt : i < ds.length := by have := (List.getElem?_eq_some_iff.mp hx).1; simpa [intsL] using this
      have hx : x = .int (i : Nat) := by
        simp [intsL, lt] at hx
        exact hx.symm
      subst hx
      have hd : ds[i]? = some ds[i] := List.getElem?_eq_getElem lt
      have hq1 : qs[i]? = some (qs[i]'(by omega)) := List.getElem?_eq_getElem _
      have md := h3 _ (List.getElem_mem lt)
      have mq := hq _ (List.getElem_mem (show i < qs.length by omega))
      rw [List.range_succ, List.filter_append]
      have step : (List.filter (fun k => !decide ((ds[k]?).getD 0 ∈ (qs[k]?).getD [])) [i]) = if ds[i] ∈ qs[i]'(by omega) then [] else [i] := by
        rw [List.filter_cons, hd, hq1]
        simp only [Option.getD_some, List.filter_nil]
        split <;> split <;> simp_all
      rw [step]
      generalize ds[i] = d at *
      generalize qs[i]'(by omega) = q1 at *
      simp only [lcT, wipe]
      walk_at "1"
      refine ⟨trivial, ?_⟩
      refine str_one (by omega) hd ?_
      rw [wd_pl]
      refine ⟨_, _, .inl (hs s1), at_nat (by unfold pS; rw [List.getElem?_map, hq1]; rfl), ?_⟩
      simp only [uIn, if_true]
      rw [occ_in md mq]
      refine ⟨_, rfl, ?_⟩
      have few : ((List.range i).filter fun k => !decide ((ds[k]?).getD 0 ∈ (qs[k]?).getD [])).length ≤ 60 := by
        have := List.length_filter_le (fun k => !decide ((ds[k]?).getD 0 ∈ (qs[k]?).getD [])) (List.range i)
        rw [List.length_range] at this
        omega
      by_cases e : d ∈ q1
      · rw [if_pos e, decide_eq_true e, if_neg (by decide), List.append_nil]
        exact ⟨s1, g1⟩
      · rw [if_neg e, decide_eq_false e, if_pos (by decide)]
        refine ⟨_, g1, ?_, (Off.trans (Same.off s1) off_upd).same hD, ?_⟩
        · rw [List.length_map]
          exact Nat.lt_of_le_of_lt few (by decide)
        · rw [upd_same, List.map_append]
          rfl
    · rintro H1 ⟨s1, g1⟩
      have hl : (intsL 0 ds.length).length = ds.length := by simp [intsL]
      rw [hl] at g1
      walk_at "1"
      refine ⟨by decide, fun e ne => ?_⟩
      have s2 : Same H1 (upd H1 e (.lst [])) := same_new ne
      have ge : upd H1 e (.lst []) e = some (.lst (([] : List Int).map V.int)) := upd_same
      generalize upd H1 e (.lst []) = H2 at *
      have g2 := s2 _ _ g1
      have eb : ((((List.range ds.length).filter fun k => !decide ((ds[k]?).getD 0 ∈ (qs[k]?).getD [])).map fun k : Nat => (k : Int)) = ([] : List Int)) ↔ fitsB qs ds = true := by
        rw [List.map_eq_nil_iff, List.filter_eq_nil_iff]
        unfold fitsB
        rw [List.all_eq_true]
        constructor
        · intro h p mp
          obtain ⟨k, lk, ek⟩ := List.mem_iff_getElem.mp mp
          have lk2 : k < ds.length := by rw [List.length_zip] at lk; omega
          have := h k (List.mem_range.mpr lk2)
          have e1 : (ds.zip qs)[k]? = some p := by rw [List.getElem?_eq_getElem lk, ek]
          rw [List.getElem?_zip_eq_some] at e1
          rw [e1.1, e1.2] at this
          simpa using this
        · intro h k mk
          have lk := List.mem_range.mp mk
          have e1 : (ds.zip qs)[k]? = some (ds[k], qs[k]'(by omega)) := by
            rw [List.getElem?_zip_eq_some]
            exact ⟨List.getElem?_eq_getElem _, List.getElem?_eq_getElem _⟩
          have := h _ (List.mem_of_getElem? e1)
          rw [List.getElem?_eq_getElem lk, List.getElem?_eq_getElem (show k < qs.length by omega)]
          simpa using this
      have g2' : H2 D = some (.lst ((((List.range ds.length).filter fun k => !decide ((ds[k]?).getD 0 ∈ (qs[k]?).getD [])).map fun k : Nat => (k : Int)).map V.int)) := by
        rw [g2, List.map_map]
        rfl
      refine eq_ints (.inl (.inl g2')) (.inl (.inl ge)) ?_
      have : decide ((((List.range ds.length).filter fun k => !decide ((ds[k]?).getD 0 ∈ (qs[k]?).getD [])).map fun k : Nat => (k : Int)) = ([] : List Int)) = fitsB qs ds := by
        rw [Bool.eq_iff_iff, decide_eq_true_iff]
        exact eb
      rw [this]
      exact q _ (s1.trans s2)
end
end U
namespace U
open PySem PySem.Spec PyProof.Rows L2

/-! ### what stands while a law draws from its box -/
def Hold (b : Addr) (H : Hp) (fs : List (Addr × HO)) : Prop := ∀ p ∈ fs, p.1 ≠ b ∧ H p.1 = some p.2
structure Sy (H0 : Hp) (b : Addr) (m : Int) (fs : List (Addr × HO)) (H : Hp) : Prop where
  bx : Bx H b m
  hd : Hold b H fs
  off : Off b H0 H
section
variable {H0 H H' : Hp} {b p : Addr} {m m' : Int} {fs : List (Addr × HO)} {o : HO}
theorem Sy.begin (h : Bx H b m) : Sy H b m [] H := ⟨h, (fun _ z => nomatch z), Off.refl⟩
theorem Sy.have_ (h : Sy H0 b m fs H) (n : p ≠ b) (g : H p = some o) : Sy H0 b m ((p, o) :: fs) H := ⟨h.bx, fun q z => (List.mem_cons.mp z).elim (fun e => by rw [e]; exact ⟨n, g⟩) (h.hd q), h.off⟩
theorem Sy.take (h : Sy H0 b m fs H) (e : Off b H H') (bx : Bx H' b m') : Sy H0 b m' fs H' := ⟨bx, fun q z => ⟨(h.hd q z).1, e _ _ (h.hd q z).1 (h.hd q z).2⟩, h.off.trans e⟩
theorem Sy.same (h : Sy H0 b m fs H) (e : Same H H') : Sy H0 b m fs H' := h.take (Same.off e) (h.bx.same e)
theorem Sy.new (h : Sy H0 b m fs H) (n : H p = none) : Sy H0 b m ((p, o) :: fs) (upd H p o) := (h.same (same_new n)).have_ (h.bx.ne n) upd_same
theorem Sy.at_ (h : Sy H0 b m fs H) (i : Nat) {a : Addr} (e : fs[i]? = some (a, o)) : H a = some o := (h.hd _ (List.mem_of_getElem? e)).2
theorem Sy.nb (h : Sy H0 b m fs H) (i : Nat) {a : Addr} (e : fs[i]? = some (a, o)) : a ≠ b := (h.hd _ (List.mem_of_getElem? e)).1
theorem Sy.le (h : Sy H0 b m fs H) (e : m ≤ m') : Sy H0 b m' fs H := ⟨h.bx.mono e, h.hd, h.off⟩
theorem Sy.drop (h : Sy H0 b m ((p, o) :: fs) H) : Sy H0 b m fs H := ⟨h.bx, fun q z => h.hd q (List.mem_cons_of_mem _ z), h.off⟩
end
theorem cut_to' {xs : List V} {k : Nat} (h : k ≤ xs.length) : cutV xs none (some (k : Int)) = xs.take k := by
  unfold cutV
  rw [HT.sIx_none, HT.sIx_nat, List.drop_zero]
  congr 1
  omega
theorem cut_from' {xs : List V} {k : Nat} (h : k ≤ xs.length) : cutV xs (some (k : Int)) none = xs.drop k := by
  unfold cutV
  rw [HT.sIx_none, HT.sIx_nat]
  rw [List.take_of_length_le (by rw [List.length_drop]; omega)]
  congr 1
  omega
theorem cut_last {xs : List V} : cutV xs none (some (-1)) = xs.take (xs.length - 1) := by
  unfold cutV
  have e1 : HT.sIx xs.length 0 (none : Option Int) = 0 := rfl
  have e2 : HT.sIx xs.length xs.length (some (-1)) = xs.length - 1 := by
    show (if (-1 : Int) < 0 then ((-1 : Int) + (xs.length : Int)).toNat else min (-1 : Int).toNat xs.length) = _
    rw [if_pos (by decide)]
    omega
  rw [e1, e2]
  rfl
end U
namespace U
open PySem PySem.Spec PyProof.Rows L2

section
variable {K : PySem.W.Frag} (F : KF K) {vs : List V} {H H0 : Hp} {Q : VK} {E : XK} {b : Addr}
local macro_rules | `(tactic| walk_at "w") => `(tactic| try simp only [turnE, lcT, Snoc, tRet, tRetN, tAndV, tOrV, tNotV, tCB, tCons, tVar, tNil, tC, tOp, tSeq, tAsg, gName, gSub, tIfS, tDrop, tFn, tTup, tLst, tNext, tB, tTest, tNot, tAnd, tOr, tIf, tChain, tUn, rU, tFld, tPart, tNoPart, L2.tSl, tBM, tPar, tPar3, tTruth, tDNewK,
  L2.start, List.map_cons, List.map_nil, List.length_cons, List.length_nil, List.replicate_succ, List.replicate_zero, List.append_nil, List.nil_append, List.cons_append, List.singleton_append, Nat.sub_self, Nat.zero_add, Nat.reduceAdd, Nat.reduceSub,
  List.getElem?_cons_zero, List.getElem?_cons_succ, List.set_cons_zero, List.set_cons_succ, Option.some.injEq, exists_eq_left, exists_eq_left', V.int.injEq, V.bl.injEq, V.str.injEq, V.ref.injEq,
  uAdd_int, uAdd_str, uSub_int, uMul_int, uMul_str, uDiv_int, uMod_int, uPow_int, uLt_int, uLe_int, uGt_int, uGe_int, uIs_non, uNis_non, uIs_bl, uNis_bl, sp1, sp2, sp3, sp4, uEq_int, uEq_str, uNe_int, uNe_str, uSl_str, uLen_str, decide_eq_true_eq])
local macro_rules | `(tactic| walk_at "1") => `(tactic| try simp only [turnE, lcT, Snoc, tRet, tRetN, tAndV, tOrV, tNotV, tCB, tCons, tVar, tNil, tC, tOp, tAsg, gName, gSub, tIfS, tDrop, tFn, tTup, tLst, tNext, tB, tTest, tNot, tAnd, tOr, tIf, tChain, tUn, rU, tFld, tPart, tNoPart, L2.tSl, tBM, tPar, tPar3, tTruth, tDNewK,
  L2.start, List.map_cons, List.map_nil, List.length_cons, List.length_nil, List.replicate_succ, List.replicate_zero, List.append_nil, List.nil_append, List.cons_append, List.singleton_append, Nat.sub_self, Nat.zero_add, Nat.reduceAdd, Nat.reduceSub,
  List.getElem?_cons_zero, List.getElem?_cons_succ, List.set_cons_zero, List.set_cons_succ, Option.some.injEq, exists_eq_left, exists_eq_left', V.int.injEq, V.bl.injEq, V.str.injEq, V.ref.injEq,
  uAdd_int, uAdd_str, uSub_int, uMul_int, uMul_str, uDiv_int, uMod_int, uPow_int, uLt_int, uLe_int, uGt_int, uGe_int, uIs_non, uNis_non, uIs_bl, uNis_bl, sp1, sp2, sp3, sp4, uEq_int, uEq_str, uNe_int, uNe_str, uSl_str, uLen_str, decide_eq_true_eq])
local macro_rules | `(tactic| walk_at "s") => `(tactic| ((try dsimp only [turnE]); with_reducible refine seq_ ?_))

def itemL (a1 a2 a3 : Addr) : List V := [.str "", .str "ba", .str "aa", .str "d", .str "abcd", .str "a ", .str "A", .non, .int 5, .ref a1, .ref a2, .str "cb", .bl true, .ref a3]
/-- an item that is none of the places for a crate -/
structure OddI (K : PySem.W.Frag) (b : Addr) (H : Hp) (w : V) (d : PyData) : Prop where
  q : ∀ H', Off b H H' → Dq K H' w d ∧ ∃ a, Is K H' w a
  s : Slim 700 3 d
  c : isCh w = false
theorem OddI.off {H H' : Hp} {w : V} {d : PyData} (h : OddI K b H w d) (e : Off b H H') : OddI K b H' w d := ⟨fun H2 e2 => h.q H2 (e.trans e2), h.s, h.c⟩
theorem item_at {a1 a2 a3 : Addr} {e : Int} (n1 : a1 ≠ b) (g1 : H a1 = some (.lst [.str "a"])) (n2 : a2 ≠ b) (g2 : H a2 = some (.tup [.str "a", .str "b"])) (n3 : a3 ≠ b) (g3 : H a3 = some (.dK [])) (h0 : 0 ≤ e) (h1 : e < 14) :
    ∃ w d, atI (itemL a1 a2 a3) e = some w ∧ OddI K b H w d := by
  have str : ∀ z : Str, slimB 700 3 (.str z) = true → isCh (.str z) = false → OddI K b H (.str z) (.str z) := fun z h c => ⟨fun _ _ => ⟨.qstr z, _, is_str z⟩, slimB_ok h, c⟩
  obtain rfl | rfl | rfl | rfl | rfl | rfl | rfl | rfl | rfl | rfl | rfl | rfl | rfl | rfl : e = 0 ∨ e = 1 ∨ e = 2 ∨ e = 3 ∨ e = 4 ∨ e = 5 ∨ e = 6 ∨ e = 7 ∨ e = 8 ∨ e = 9 ∨ e = 10 ∨ e = 11 ∨ e = 12 ∨ e = 13 := by omega
  · exact ⟨_, _, rfl, str _ (by decide +kernel) (by decide +kernel)⟩
  · exact ⟨_, _, rfl, str _ (by decide +kernel) (by decide +kernel)⟩
  · exact ⟨_, _, rfl, str _ (by decide +kernel) (by decide +kernel)⟩
  · exact ⟨_, _, rfl, str _ (by decide +kernel) (by decide +kernel)⟩
  · exact ⟨_, _, rfl, str _ (by decide +kernel) (by decide +kernel)⟩
  · exact ⟨_, _, rfl, str _ (by decide +kernel) (by decide +kernel)⟩
  · exact ⟨_, _, rfl, str _ (by decide +kernel) (by decide +kernel)⟩
  · exact ⟨_, _, rfl, fun _ _ => ⟨.qnon, _, is_non⟩, slimB_ok (by decide +kernel), rfl⟩
  · exact ⟨_, _, rfl, fun _ _ => ⟨.qint 5, _, is_int 5⟩, slimB_ok (by decide +kernel), rfl⟩
  · exact ⟨_, .list [.str "a"], rfl, fun H' o => ⟨.qlst (.inl (.inl (o _ _ n1 g1))) (.qcons (.qstr "a") .qnil), _, is_lst (o _ _ n1 g1)⟩, slimB_ok (by decide +kernel), rfl⟩
  · exact ⟨_, .tuple [.str "a", .str "b"], rfl, fun H' o => ⟨.qtup (.inl (.inl (o _ _ n2 g2))) (.qcons (.qstr "a") (.qcons (.qstr "b") .qnil)), _, is_tup (o _ _ n2 g2)⟩, slimB_ok (by decide +kernel), rfl⟩
  · exact ⟨_, _, rfl, str _ (by decide +kernel) (by decide +kernel)⟩
  · exact ⟨_, _, rfl, fun _ _ => ⟨.qbl true, _, is_bl true⟩, slimB_ok (by decide +kernel), rfl⟩
  · exact ⟨_, .dict [], rfl, fun H' o => ⟨.qdct (o _ _ n3 g3) rfl .qnil, _, is_dct (o _ _ n3 g3)⟩, slimB_ok (by decide +kernel), rfl⟩
/-- how places for crates are shown -/
def dS (qs : List (List Nat)) : List PyData := qs.map fun q => .str (wd q)
theorem slim_q {q : List Nat} (h : q ∈ chN) : Slim 700 3 (.str (wd q)) := by
  have key : ∀ q ∈ chN, slimB 700 3 (.str (wd q)) = true := by decide +kernel
  exact slimB_ok (key q h)
theorem slim_ds {qs : List (List Nat)} (h : PtN qs) : ∀ d ∈ dS qs, Slim 700 3 d := fun d m => by
  obtain ⟨q, mq, rfl⟩ := List.mem_map.mp m
  exact slim_q (h q mq)
theorem dq_ds {qs : List (List Nat)} : DqAll K H (pS qs) (dS qs) := dq_all fun q _ => .qstr (wd q)
theorem dqAll_app : ∀ {xs ys : List V} {ds es : List PyData}, DqAll K H xs ds → DqAll K H ys es → DqAll K H (xs ++ ys) (ds ++ es)
  | [], _, _, _, .qnil, h => h
  | _ :: _, _, _, _, .qcons a r, h => .qcons a (dqAll_app r h)
/-- a list that is no pattern -/
theorem odd_list {B n : Nat} {a : Addr} {xs : List V} {ds : List PyData} (nb : a ≠ b) (g : H a = some (.lst xs)) (hq : ∀ H', Off b H H' → DqAll K H' xs ds) (hs : ∀ d ∈ ds, Slim B 6 d) (hB : (B + 2) * 61 + 3 ≤ 50000) (few : xs.length ≤ 61) (ld : ds.length = xs.length) (kinds : ∀ H', Off b H H' → ∀ v ∈ xs, ∃ a, Is K H' v a)
    (no : (decide (xs.length = n) && xs.all isCh) = false) : OddP K b H n (.ref a) (.list ds) := by
  have s := slim_list (n := 61) hs (by rw [ld]; exact few)
  refine ⟨⟨fun H' o => .qlst (.inl (.inl (o _ _ nb g))) (hq H' o), s.mono hB (by decide)⟩, fun H' o => .inr ⟨a, xs, rfl, .inl (.inl (.inl (o _ _ nb g))), by omega, kinds H' o, no.symm⟩⟩
theorem odd_plain {n : Nat} {v : V} {d : PyData} {a : Ty} (hq : ∀ H', Off b H H' → Dq K H' v d ∧ Is K H' v a) (hs : Slim 50000 8 d) (h1 : a ≠ .lst) (h2 : a ≠ .tup) : OddP K b H n v d :=
  ⟨⟨fun H' o => (hq H' o).1, hs⟩, fun H' o => .inl ⟨a, (hq H' o).2, h1, h2, rfl⟩⟩
theorem kinds_ps {qs : List (List Nat)} : ∀ v ∈ pS qs, ∃ a, Is K H v a := fun v m => by
  obtain ⟨q, _, rfl⟩ := List.mem_map.mp m
  exact ⟨.str, is_str _⟩
def someL (B1 M1 M3 d e f : Addr) : List V := [.ref B1, .ref B1, .ref B1, .ref M1, .ref M3, .non, .int 5, .str "abc", .ref d, .bl true, .ref e, .ref f]
theorem mul_a (n : Nat) : Txt.mul "a" (n : Int) = wd (List.replicate n 0) := by rw [show ("a" : Str) = pl 0 by decide, mul_pl]
theorem wd_sign {ds : List Nat} (h3 : D3 ds) : ∀ c ∈ (wd ds).cps.toList, c < 1000 := fun c m => by
  simp [wd] at m
  obtain ⟨d, md, rfl⟩ := m
  have := h3 d md
  omega
include F in
theorem read__law_odd (h : sp__law_odd K vs H Q E) : t__law_odd K E { nx := fun _ H' => Q .non H', rt := Q } (start ["_law_box_here", "_law_pattern_here", "_law_at", "_law_item", "_law_bent", "_law_some"] vs) H := by
  match vs, h with
  | [_, _], ⟨b, m, l, qs, rfl, rfl, gl, nl, hq, h1, h60, hb, hm, q⟩ =>
    have sy : Sy H b m [(l, .lst (pS qs))] H := (Sy.begin hb).have_ nl gl
    have lenP : (pS qs).length = qs.length := List.length_map _
    unfold t__law_odd
    walk_at "s"
    walk_at "1"
    refine uLen_seq (.inl (.inl (.inl gl))) ?_
    rw [lenP]
    refine take_of sy.bx (by omega) (by omega) (by omega) fun at_ H1 d0 d1 o1 b1 => ?_
    have sy := sy.take o1 b1
    obtain ⟨k, rfl⟩ : ∃ k : Nat, at_ = (k : Int) := ⟨at_.toNat, by omega⟩
    have lk : k < qs.length := by omega
    walk_at "s"
    walk_at "1"
    refine ⟨by decide, fun a1 n1 => ?_⟩
    have sy := sy.new (o := .lst [.str "a"]) n1
    generalize upd H1 a1 (.lst [.str "a"]) = H2 at *
    refine ⟨by decide, fun a2 n2 => ?_⟩
    have sy := sy.new (o := .tup [.str "a", .str "b"]) n2
    generalize upd H2 a2 (.tup [.str "a", .str "b"]) = H3 at *
    refine fun a3 n3 => ?_
    have sy := sy.new (o := .dK []) n3
    generalize upd H3 a3 (.dK []) = H4 at *
    refine ⟨by decide, fun p1 np1 => ?_⟩
    have sy := sy.new (o := .lst (itemL a1 a2 a3)) np1
    refine (show sp__law_take K [.ref b, .int 14] (upd H4 p1 (.lst (itemL a1 a2 a3))) _ _ from ?_)
    generalize upd H4 p1 (.lst (itemL a1 a2 a3)) = H5 at *
    refine take_of sy.bx (by omega) (by omega) (by omega) fun e1 H6 e0 e2 o6 b6 => ?_
    have sy := sy.take o6 b6
    obtain ⟨w, wd_, hat, it⟩ := item_at (K := K) (b := b) (sy.nb 3 rfl) (sy.at_ 3 rfl) (sy.nb 2 rfl) (sy.at_ 2 rfl) (sy.nb 1 rfl) (sy.at_ 1 rfl) e0 e2
    refine uIx_lst (sy.at_ 0 rfl) hat ?_
    clear hat n1 n2 n3 np1 o1 o6 b1 b6 gl nl
    have o06 := sy.off
    have sy : Sy H6 b (m + 1 + 1) [(l, .lst (pS qs))] H6 := ⟨sy.bx, fun q z => sy.hd q (by simp only [List.mem_singleton] at z; simp [z]), Off.refl⟩
    -- the bent one
    walk_at "s"
    walk_at "1"
    refine .inl ⟨l, _, rfl, .inl (.inl (sy.at_ 0 rfl)), fun c1 n1 => ?_⟩
    rw [cut_to' (by rw [lenP]; omega)]
    have sy := sy.new (o := .lst ((pS qs).take k)) n1
    generalize upd H6 c1 (.lst ((pS qs).take k)) = H7 at *
    refine ⟨by show 1 ≤ sizeLine; decide, fun c2 n2 => ?_⟩
    have sy := sy.new (o := .lst [w]) n2
    refine (show uAdd (.ref c1) (.ref c2) (upd H7 c2 (.lst [w])) _ from ?_)
    generalize upd H7 c2 (.lst [w]) = H8 at *
    refine ⟨c1, c2, _, _, rfl, rfl, sy.at_ 1 rfl, sy.at_ 0 rfl, ?_, fun c3 n3 => ?_⟩
    · rw [List.length_take, List.length_singleton, sizeLine_eq]
      omega
    have sy := sy.new (o := .lst ((pS qs).take k ++ [w])) n3
    generalize upd H8 c3 (.lst ((pS qs).take k ++ [w])) = H9 at *
    refine .inl ⟨l, _, rfl, .inl (.inl (sy.at_ 3 rfl)), fun c4 n4 => ?_⟩
    rw [show ((k : Nat) : Int) + 1 = ((k + 1 : Nat) : Int) by omega, cut_from' (by rw [lenP]; omega)]
    have sy := sy.new (o := .lst ((pS qs).drop (k + 1))) n4
    generalize upd H9 c4 (.lst ((pS qs).drop (k + 1))) = H10 at *
    refine ⟨c3, c4, _, _, rfl, rfl, sy.at_ 1 rfl, sy.at_ 0 rfl, ?_, fun B1 nB => ?_⟩
    · rw [List.length_append, List.length_take, List.length_singleton, List.length_drop, sizeLine_eq]
      omega
    have sy := sy.new (o := .lst ((pS qs).take k ++ [w] ++ (pS qs).drop (k + 1))) nB
    generalize upd H10 B1 (.lst ((pS qs).take k ++ [w] ++ (pS qs).drop (k + 1))) = H11 at *
    have sy : Sy H6 b (m + 1 + 1) [(B1, .lst ((pS qs).take k ++ [w] ++ (pS qs).drop (k + 1))), (l, .lst (pS qs))] H11 := ⟨sy.bx, fun q z => sy.hd q (by simp only [List.mem_cons, List.not_mem_nil, or_false] at z; rcases z with rfl | rfl <;> simp), sy.off⟩
    clear n1 n2 n3 n4 nB
    -- the menu
    walk_at "s"
    walk_at "1"
    refine .inl ⟨l, _, rfl, .inl (.inl (sy.at_ 1 rfl)), fun M1 n1 => ?_⟩
    rw [cut_last, lenP]
    have sy := sy.new (o := .lst ((pS qs).take (qs.length - 1))) n1
    generalize upd H11 M1 (.lst ((pS qs).take (qs.length - 1))) = H12 at *
    refine ⟨by decide, fun M2 n2 => ?_⟩
    have sy := sy.new (o := .lst [.str "a"]) n2
    refine (show uAdd (.ref l) (.ref M2) (upd H12 M2 (.lst [.str "a"])) _ from ?_)
    generalize upd H12 M2 (.lst [.str "a"]) = H13 at *
    refine ⟨l, M2, _, _, rfl, rfl, sy.at_ 3 rfl, sy.at_ 0 rfl, ?_, fun M3 n3 => ?_⟩
    · rw [lenP, List.length_singleton, sizeLine_eq]
      omega
    have sy := sy.new (o := .lst (pS qs ++ [.str "a"])) n3
    generalize upd H13 M3 (.lst (pS qs ++ [.str "a"])) = H14 at *
    refine fun d1 nd => ?_
    have sy := sy.new (o := .dK []) nd
    generalize upd H14 d1 (.dK []) = H15 at *
    refine ⟨by decide, fun e1 ne => ?_⟩
    have sy := sy.new (o := .lst []) ne
    generalize upd H15 e1 (.lst []) = H16 at *
    refine ⟨by show 1 ≤ sizeLine; decide, fun f1 nf => ?_⟩
    have sy := sy.new (o := .lst [.ref l]) nf
    generalize upd H16 f1 (.lst [.ref l]) = H17 at *
    refine ⟨by show 12 ≤ sizeLine; decide, fun S nS => ?_⟩
    have sy := sy.new (o := .lst (someL B1 M1 M3 d1 e1 f1)) nS
    refine (show uLen K [.ref l] (upd H17 S (.lst (someL B1 M1 M3 d1 e1 f1))) _ from ?_)
    generalize upd H17 S (.lst (someL B1 M1 M3 d1 e1 f1)) = H18 at *
    clear n1 n2 n3 nd ne nf nS
    refine uLen_seq (.inl (.inl (.inl (sy.at_ 8 rfl)))) ?_
    rw [lenP]
    walk_at "1"
    refine ⟨by omega, by omega, by decide +kernel, ?_⟩
    rw [mul_a]
    refine ⟨by show 1 ≤ sizeLine; decide, fun T nT => ?_⟩
    have sy := sy.new (o := .lst [.str (wd (List.replicate qs.length 0))]) nT
    refine (show uAdd (.ref S) (.ref T) (upd H18 T (.lst [.str (wd (List.replicate qs.length 0))])) _ from ?_)
    generalize upd H18 T (.lst [.str (wd (List.replicate qs.length 0))]) = H19 at *
    refine ⟨S, T, _, _, rfl, rfl, sy.at_ 1 rfl, sy.at_ 0 rfl, by show 12 + 1 ≤ sizeLine; decide, fun W nW => ?_⟩
    have sy := sy.new (o := .lst (someL B1 M1 M3 d1 e1 f1 ++ [.str (wd (List.replicate qs.length 0))])) nW
    generalize upd H19 W (.lst (someL B1 M1 M3 d1 e1 f1 ++ [.str (wd (List.replicate qs.length 0))])) = H20 at *
    refine take_of sy.bx (by omega) (by omega) (by omega) fun e H21 e0 e13 o21 b21 => ?_
    have sy := sy.take o21 b21
    have it := it.off sy.off
    have fin : ∀ v d, OddP K b H21 qs.length v d → Q v H21 := fun v d h => q v d H21 (o06.trans sy.off) (sy.bx.mono (by omega)) h
    refine uIx_lst (xs := someL B1 M1 M3 d1 e1 f1 ++ [.str (wd (List.replicate qs.length 0))]) (v := (someL B1 M1 M3 d1 e1 f1 ++ [.str (wd (List.replicate qs.length 0))])[e.toNat]?.getD .non) (sy.at_ 0 rfl) ?_ ?_
    · obtain rfl | rfl | rfl | rfl | rfl | rfl | rfl | rfl | rfl | rfl | rfl | rfl | rfl : e = 0 ∨ e = 1 ∨ e = 2 ∨ e = 3 ∨ e = 4 ∨ e = 5 ∨ e = 6 ∨ e = 7 ∨ e = 8 ∨ e = 9 ∨ e = 10 ∨ e = 11 ∨ e = 12 := by omega
      all_goals rfl
    · have bent : OddP K b H21 qs.length (.ref B1) (.list ((dS qs).take k ++ [wd_] ++ (dS qs).drop (k + 1))) := by
        have et : (pS qs).take k = pS (qs.take k) := (List.map_take ..).symm
        have ed : (pS qs).drop (k + 1) = pS (qs.drop (k + 1)) := (List.map_drop ..).symm
        have ft : (dS qs).take k = dS (qs.take k) := (List.map_take ..).symm
        have fd : (dS qs).drop (k + 1) = dS (qs.drop (k + 1)) := (List.map_drop ..).symm
        have l1 : (pS (qs.take k)).length = k := by unfold pS; rw [List.length_map, List.length_take]; omega
        have l2 : (pS (qs.drop (k + 1))).length = qs.length - (k + 1) := by unfold pS; rw [List.length_map, List.length_drop]
        have m1 : (dS (qs.take k)).length = k := by unfold dS; rw [List.length_map, List.length_take]; omega
        have m2 : (dS (qs.drop (k + 1))).length = qs.length - (k + 1) := by unfold dS; rw [List.length_map, List.length_drop]
        have gB := sy.at_ 9 rfl
        rw [et, ed] at gB
        rw [ft, fd]
        refine odd_list (B := 700) (sy.nb 9 rfl) gB (fun H' o => dqAll_app (dqAll_app dq_ds (.qcons (it.q H' o).1 .qnil)) dq_ds) (fun d md => ?_) (by decide) ?_ ?_ (fun H' o v mv => ?_) ?_
        · rcases List.mem_append.mp md with md | md
          · rcases List.mem_append.mp md with md | md
            · exact (slim_ds (fun q m => hq q (List.mem_of_mem_take m)) d md).mono (by decide) (by decide)
            · rw [List.mem_singleton.mp md]
              exact it.s.mono (by decide) (by decide)
          · exact (slim_ds (fun q m => hq q (List.mem_of_mem_drop m)) d md).mono (by decide) (by decide)
        · rw [List.length_append, List.length_append, l1, l2, List.length_singleton]
          omega
        · rw [List.length_append, List.length_append, List.length_append, List.length_append, l1, l2, m1, m2, List.length_singleton, List.length_singleton]
        · rcases List.mem_append.mp mv with mv | mv
          · rcases List.mem_append.mp mv with mv | mv
            · exact kinds_ps v mv
            · rw [List.mem_singleton.mp mv]
              exact (it.q H' o).2
          · exact kinds_ps v mv
        · rw [List.all_append, List.all_append, show [w].all isCh = false by rw [List.all_cons, it.c, Bool.false_and], Bool.and_false, Bool.false_and, Bool.and_false]
      obtain rfl | rfl | rfl | rfl | rfl | rfl | rfl | rfl | rfl | rfl | rfl | rfl | rfl : e = 0 ∨ e = 1 ∨ e = 2 ∨ e = 3 ∨ e = 4 ∨ e = 5 ∨ e = 6 ∨ e = 7 ∨ e = 8 ∨ e = 9 ∨ e = 10 ∨ e = 11 ∨ e = 12 := by omega
      · exact fin _ _ bent
      · exact fin _ _ bent
      · exact fin _ _ bent
      · have gM := sy.at_ 8 rfl
        rw [show (pS qs).take (qs.length - 1) = pS (qs.take (qs.length - 1)) from (List.map_take ..).symm] at gM
        have l1 : (pS (qs.take (qs.length - 1))).length = qs.length - 1 := by unfold pS; rw [List.length_map, List.length_take]; omega
        refine fin _ (.list (dS (qs.take (qs.length - 1)))) (odd_list (B := 700) (sy.nb 8 rfl) gM (fun H' o => dq_ds) (fun d md => (slim_ds (fun q m => hq q (List.mem_of_mem_take m)) d md).mono (by decide) (by decide)) (by decide) (by rw [l1]; omega) ?_ (fun H' o v mv => kinds_ps v mv) ?_)
        · unfold dS pS
          rw [List.length_map, List.length_map]
        · rw [l1, decide_eq_false (by omega), Bool.false_and]
      · refine fin _ (.list (dS qs ++ [.str "a"])) (odd_list (B := 700) (sy.nb 6 rfl) (sy.at_ 6 rfl) (fun H' o => dqAll_app dq_ds (.qcons (.qstr "a") .qnil)) (fun d md => ?_) (by decide) (by rw [List.length_append, lenP, List.length_singleton]; omega) ?_ (fun H' o v mv => ?_) ?_)
        · rcases List.mem_append.mp md with md | md
          · exact (slim_ds hq d md).mono (by decide) (by decide)
          · rw [List.mem_singleton.mp md]
            exact slimB_ok (by decide +kernel)
        · unfold dS pS
          rw [List.length_append, List.length_append, List.length_map, List.length_map]
          rfl
        · rcases List.mem_append.mp mv with mv | mv
          · exact kinds_ps v mv
          · rw [List.mem_singleton.mp mv]
            exact ⟨.str, is_str _⟩
        · rw [List.length_append, lenP, List.length_singleton, decide_eq_false (by omega), Bool.false_and]
      · exact fin _ _ (odd_plain (a := .non) (fun _ _ => ⟨.qnon, is_non⟩) (slimB_ok (by decide +kernel)) (by decide) (by decide))
      · exact fin _ _ (odd_plain (a := .int) (fun _ _ => ⟨.qint 5, is_int 5⟩) (slimB_ok (by decide +kernel)) (by decide) (by decide))
      · exact fin _ _ (odd_plain (a := .str) (fun _ _ => ⟨.qstr "abc", is_str _⟩) (slimB_ok (by decide +kernel)) (by decide) (by decide))
      · exact fin _ (.dict []) (odd_plain (a := .dct) (fun H' o => ⟨.qdct (o _ _ (sy.nb 5 rfl) (sy.at_ 5 rfl)) rfl .qnil, is_dct (o _ _ (sy.nb 5 rfl) (sy.at_ 5 rfl))⟩) (slimB_ok (by decide +kernel)) (by decide) (by decide))
      · exact fin _ _ (odd_plain (a := .bl) (fun _ _ => ⟨.qbl true, is_bl true⟩) (slimB_ok (by decide +kernel)) (by decide) (by decide))
      · refine fin _ (.list []) (odd_list (B := 700) (ds := []) (sy.nb 4 rfl) (sy.at_ 4 rfl) (fun H' o => .qnil) (fun d md => nomatch md) (by decide) (by decide) rfl (fun H' o v mv => nomatch mv) ?_)
        show (decide (0 = qs.length) && _) = false
        rw [decide_eq_false (by omega), Bool.false_and]
      · have inner : Slim ((700 + 2) * 60 + 3) 4 (.list (dS qs)) := slim_list (n := 60) (slim_ds hq) (by unfold dS; rw [List.length_map]; exact h60)
        refine fin _ (.list [.list (dS qs)]) ⟨⟨fun H' o => .qlst (.inl (.inl (o _ _ (sy.nb 3 rfl) (sy.at_ 3 rfl)))) (.qcons (.qlst (.inl (.inl (o _ _ (sy.nb 10 rfl) (sy.at_ 10 rfl)))) dq_ds) .qnil), ?_⟩, fun H' o => .inr ⟨f1, _, rfl, .inl (.inl (.inl (o _ _ (sy.nb 3 rfl) (sy.at_ 3 rfl)))), by show 1 ≤ 1000; decide, fun v mv => ?_, ?_⟩⟩
        · exact (slim_list (n := 1) (fun d md => by rw [List.mem_singleton.mp md]; exact inner) (by show 1 ≤ 1; decide)).mono (by decide) (by decide)
        · rw [List.mem_singleton.mp mv]
          exact ⟨.lst, is_lst (o _ _ (sy.nb 10 rfl) (sy.at_ 10 rfl))⟩
        · show false = (_ && ([V.ref l]).all isCh)
          rw [show ([V.ref l]).all isCh = false from rfl, Bool.and_false]
      · exact fin _ _ (odd_plain (a := .str) (fun _ _ => ⟨.qstr _, is_str _⟩) ((slim_str (n := 60) (wd_sign (d3_rep (by decide))) (by rw [wd_length, List.length_replicate]; exact h60)).mono (by decide) (by decide)) (by decide) (by decide))
end
end U
namespace U
open PySem PySem.Spec PyProof.Rows L2

def sp__law_very_right (K : PySem.W.Frag) : Sp := sp3 fun y p w H Q _ => ∃ a rows l qs ds, y = .ref a ∧ Yd K H a rows ∧ p = .ref l ∧ H l = some (.lst (pS qs)) ∧ PtN qs ∧ qs.length = rows.length ∧ Arr rows.length w ds ∧ ∀ H', Same H H' → Q (.bl true) H'
def sp__law_right (K : PySem.W.Frag) : Sp := sp4 fun x y p w H Q _ => ∃ (b : Addr) (m : Int) (a : Addr) (rows : List (List (Option Int))) (l : Addr) (qs : List (List Nat)) (ds : List Nat), x = .ref b ∧ y = .ref a ∧ Yd K H a rows ∧ p = .ref l ∧ H l = some (.lst (pS qs)) ∧ l ≠ b ∧ PtN qs ∧ qs.length = rows.length ∧ Arr rows.length w ds ∧ Bx H b m ∧ m ≤ 900000 ∧
  ∀ H', Off b H H' → Bx H' b (m + 10) → Q (.bl true) H'
def t__law_very_right (K : PySem.W.Frag) (E : XK) : TS := (tSeq (tAsg (tOp uAdd (tVar 1) (tLst (tCons (tC (.str "a")) tNil))) (gName 3)) (tSeq (tAsg (tLc (iRng1 (tCons (tC (.int 9)) tNil)) (gName 5) tYes (tFn (sp__law_caught K) E0 (tCons (tVar 5) (tCons (tVar 0) (tCons (tVar 3) (tCons (tVar 2) tNil))))) [5]) (gName 4)) (tSeq (tDrop (tBM K "list" rAppend (tVar 3) (tCons (tC (.str "more")) tNil))) (tRet (tOp (uEq K) (tVar 4) (tOp uMul (tLst (tCons (tLst (tCons (tC (.str "pattern")) (tCons (tVar 3) tNil))) tNil)) (tC (.int 9))))))))
def t__law_right (K : PySem.W.Frag) (E : XK) : TS := (tSeq (tAsg (tFn (sp__law_odd K) E (tCons (tVar 0) (tCons (tVar 2) tNil))) (gName 4)) (tSeq (tAsg (tOp (uIx K) (tLst (tCons (tC .non) (tCons (tC (.int 5)) (tCons (tC (.str "")) (tCons (tOp uAdd (tVar 3) (tC (.str "a"))) (tCons (tOp uAdd (tSl (uSl K) (tVar 3) tNoPart (tPart (tUn (rU fun i => .int (-i)) (tC (.int 1))))) (tC (.str "d"))) (tCons (tCB (uLst K) (tCons (tVar 3) tNil)) (tCons (tC (.bl true)) (tCons tDNewK tNil))))))))) (tFn (sp__law_take K) E (tCons (tVar 0) (tCons (tC (.int 8)) tNil)))) (gName 5)) (tSeq (tIfS (tOr (tTest (tOp uNis (tFn (sp_is_pattern K) E (tCons (tVar 1) (tCons (tVar 4) tNil))) (tC (.bl false)))) (tTest (tOp uNis (tFn (sp_is_pattern K) E (tCons (tVar 1) (tCons (tCB (uTup K) (tCons (tVar 2) tNil)) tNil))) (tC (.bl true))))) (tRet (tC (.bl false))) tNext) (tSeq (tFor (iRng1 (tCons (tC (.int 4)) tNil)) (gName 6) (tIfS (tTest (tOp (uNe K) (tCB (uReprQ K) (tCons (tFn (sp__law_caught K) E (tCons (tVar 6) (tCons (tVar 1) (tCons (tVar 4) (tCons (tVar 5) tNil))))) tNil)) (tCB (uReprQ K) (tCons (tLst (tCons (tC (.str "pattern")) (tCons (tVar 4) tNil))) tNil)))) (tRet (tC (.bl false))) tNext)) (tSeq (tFor (iRng1 (tCons (tC (.int 3)) tNil)) (gName 6) (tIfS (tTest (tOp (uNe K) (tCB (uReprQ K) (tCons (tFn (sp__law_caught K) E (tCons (tVar 6) (tCons (tVar 1) (tCons (tVar 2) (tCons (tVar 5) tNil))))) tNil)) (tCB (uReprQ K) (tCons (tLst (tCons (tC (.str "word")) (tCons (tVar 5) tNil))) tNil)))) (tRet (tC (.bl false))) tNext)) (tSeq (tFor (iSeq K (tLst (tCons (tC (.int 4)) (tCons (tC (.int 5)) (tCons (tC (.int 6)) tNil))))) (gName 6) (tSeq (tIfS (tTest (tOp (uNe K) (tCB (uReprQ K) (tCons (tFn (sp__law_caught K) E (tCons (tVar 6) (tCons (tVar 1) (tCons (tVar 4) (tCons (tVar 5) tNil))))) tNil)) (tCB (uReprQ K) (tCons (tLst (tCons (tC (.str "word")) (tCons (tVar 5) tNil))) tNil)))) (tRet (tC (.bl false))) tNext) (tIfS (tTest (tOp (uNe K) (tCB (uReprQ K) (tCons (tFn (sp__law_caught K) E (tCons (tVar 6) (tCons (tVar 1) (tCons (tVar 4) (tCons (tVar 3) tNil))))) tNil)) (tCB (uReprQ K) (tCons (tLst (tCons (tC (.str "pattern")) (tCons (tVar 4) tNil))) tNil)))) (tRet (tC (.bl false))) tNext))) (tSeq (tFor (iSeq K (tLst (tCons (tC (.int 7)) (tCons (tC (.int 8)) tNil)))) (gName 6) (tSeq (tIfS (tTest (tOp (uNe K) (tCB (uReprQ K) (tCons (tFn (sp__law_caught K) E (tCons (tVar 6) (tCons (tVar 1) (tCons (tVar 4) (tCons (tVar 5) tNil))))) tNil)) (tCB (uReprQ K) (tCons (tLst (tCons (tC (.str "pattern")) (tCons (tVar 4) tNil))) tNil)))) (tRet (tC (.bl false))) tNext) (tIfS (tTest (tOp (uNe K) (tCB (uReprQ K) (tCons (tFn (sp__law_caught K) E (tCons (tVar 6) (tCons (tVar 1) (tCons (tVar 2) (tCons (tVar 4) tNil))))) tNil)) (tCB (uReprQ K) (tCons (tLst (tCons (tC (.str "pattern")) (tCons (tVar 4) tNil))) tNil)))) (tRet (tC (.bl false))) tNext))) (tSeq (tFor (iSeq K (tLst (tCons (tC (.int 9)) (tCons (tC (.int 10)) tNil)))) (gName 6) (tSeq (tIfS (tTest (tOp (uNe K) (tCB (uReprQ K) (tCons (tFn (sp__law_caught K) E (tCons (tVar 6) (tCons (tVar 1) (tCons (tVar 5) (tCons (tVar 4) tNil))))) tNil)) (tCB (uReprQ K) (tCons (tLst (tCons (tC (.str "word")) (tCons (tVar 5) tNil))) tNil)))) (tRet (tC (.bl false))) tNext) (tIfS (tTest (tOp (uNe K) (tCB (uReprQ K) (tCons (tFn (sp__law_caught K) E (tCons (tVar 6) (tCons (tVar 1) (tCons (tVar 3) (tCons (tVar 5) tNil))))) tNil)) (tCB (uReprQ K) (tCons (tLst (tCons (tC (.str "word")) (tCons (tVar 5) tNil))) tNil)))) (tRet (tC (.bl false))) tNext))) (tRet (tOp (uEq K) (tFn (sp__law_caught K) E (tCons (tC (.int 10)) (tCons (tMake (He.ga K "Yard") (sp_Yard_init K) [] E (tCons (tOp uMul (tLst (tCons (tOp uMul (tLst (tCons (tC (.int 2)) tNil)) (tC (.int 6))) tNil)) (tC (.int 2))) tNil)) (tCons (tC (.str "ab")) (tCons (tC (.str "ba")) tNil))))) (tLst (tCons (tC (.str "count")) (tCons (tC .non) tNil)))))))))))))
section
variable {K : PySem.W.Frag} (F : KF K) {vs : List V} {H H' H0 : Hp} {Q : VK} {E : XK} {b : Addr}
local macro_rules | `(tactic| walk_at "w") => `(tactic| try simp only [turnE, lcT, Snoc, tRet, tRetN, tAndV, tOrV, tNotV, tCB, tCons, tVar, tNil, tC, tOp, tSeq, tAsg, gName, gSub, tIfS, tDrop, tFn, tTup, tLst, tNext, tB, tTest, tNot, tAnd, tOr, tIf, tChain, tUn, rU, tFld, tPart, tNoPart, L2.tSl, tBM, tPar, tPar3, tTruth, tDNewK,
  L2.start, List.map_cons, List.map_nil, List.length_cons, List.length_nil, List.replicate_succ, List.replicate_zero, List.append_nil, List.nil_append, List.cons_append, List.singleton_append, Nat.sub_self, Nat.zero_add, Nat.reduceAdd, Nat.reduceSub,
  List.getElem?_cons_zero, List.getElem?_cons_succ, List.set_cons_zero, List.set_cons_succ, Option.some.injEq, exists_eq_left, exists_eq_left', V.int.injEq, V.bl.injEq, V.str.injEq, V.ref.injEq,
  uAdd_int, uAdd_str, uSub_int, uMul_int, uMul_str, uDiv_int, uMod_int, uPow_int, uLt_int, uLe_int, uGt_int, uGe_int, uIs_non, uNis_non, uIs_bl, uNis_bl, sp1, sp2, sp3, sp4, uEq_int, uEq_str, uNe_int, uNe_str, uSl_str, uLen_str, decide_eq_true_eq])
local macro_rules | `(tactic| walk_at "1") => `(tactic| try simp only [turnE, lcT, Snoc, tRet, tRetN, tAndV, tOrV, tNotV, tCB, tCons, tVar, tNil, tC, tOp, tAsg, gName, gSub, tIfS, tDrop, tFn, tTup, tLst, tNext, tB, tTest, tNot, tAnd, tOr, tIf, tChain, tUn, rU, tFld, tPart, tNoPart, L2.tSl, tBM, tPar, tPar3, tTruth, tDNewK,
  L2.start, List.map_cons, List.map_nil, List.length_cons, List.length_nil, List.replicate_succ, List.replicate_zero, List.append_nil, List.nil_append, List.cons_append, List.singleton_append, Nat.sub_self, Nat.zero_add, Nat.reduceAdd, Nat.reduceSub,
  List.getElem?_cons_zero, List.getElem?_cons_succ, List.set_cons_zero, List.set_cons_succ, Option.some.injEq, exists_eq_left, exists_eq_left', V.int.injEq, V.bl.injEq, V.str.injEq, V.ref.injEq,
  uAdd_int, uAdd_str, uSub_int, uMul_int, uMul_str, uDiv_int, uMod_int, uPow_int, uLt_int, uLe_int, uGt_int, uGe_int, uIs_non, uNis_non, uIs_bl, uNis_bl, sp1, sp2, sp3, sp4, uEq_int, uEq_str, uNe_int, uNe_str, uSl_str, uLen_str, decide_eq_true_eq])
local macro_rules | `(tactic| walk_at "s") => `(tactic| ((try dsimp only [turnE]); with_reducible refine seq_ ?_))

theorem Yd.offL {y : Addr} {rows : List (List (Option Int))} {l : List V} (o : Off b H H') (hb : H b = some (.lst l)) (h : Yd K H y rows) : Yd K H' y rows := by
  obtain ⟨dx, t, as, ⟨rk, h1⟩, h2, h3, h4, h5, h6, h7⟩ := h
  exact ⟨dx, t, as, ⟨rk, o _ _ (by rintro rfl; rw [hb] at h1; cases h1) h1⟩, o.sqT hb h2, h3, h4, h5, fun i a r q1 q2 => o.sqT hb (h6 i a r q1 q2), h7⟩
theorem lay_strs {xs : List Str} (h : ∀ x ∈ xs, PyData.strOk x = true) : PyData.canLayAll0 (xs.map PyData.str) = true ∧ PyData.depthAll (xs.map PyData.str) = 0 := by
  induction xs with
  | nil => exact ⟨by simp [PyData.canLayAll0], by simp [PyData.depthAll]⟩
  | cons a r ih =>
    have i1 := ih fun x m => h x (List.mem_cons_of_mem _ m)
    have i2 := h a List.mem_cons_self
    exact ⟨by simp [PyData.canLayAll0, PyData.canLay0, i1.1, i2], by simp [PyData.depthAll, PyData.depth, i1.2]⟩
/-- one answer that holds a list of texts, many times -/
def nestP (n : Nat) (w : Str) (zs : List Str) : PyData := .list (List.replicate n (.list [.str w, .list (zs.map PyData.str)]))
theorem nestP_shaped {w : Str} {zs : List Str} (hw : PyData.strOk w = true) (ok : ∀ z ∈ zs, PyData.strOk z = true) (n : Nat) : SeqAt.shaped (nestP n w zs) = true := by
  obtain ⟨l1, l2⟩ := lay_strs ok
  have all : PyData.canLayAll0 (List.replicate n (PyData.list [.str w, .list (zs.map PyData.str)])) = true ∧ PyData.depthAll (List.replicate n (PyData.list [.str w, .list (zs.map PyData.str)])) ≤ 2 := by
    induction n with
    | zero => exact ⟨by simp [PyData.canLayAll0], by simp [PyData.depthAll]⟩
    | succ n i => simp [List.replicate_succ, PyData.canLayAll0, PyData.canLay0, PyData.depthAll, PyData.depth, i, l1, l2, hw]
  unfold SeqAt.shaped nestP
  rw [PyData.canLay0, all.1, PyData.depth]
  (exact decide_eq_true (by omega))
theorem dp_nestP {w : Str} {zs : List Str} {h : Addr} (gh : H h = some (.lst (zs.map V.str))) : ∀ {ls : List Addr} {l : Addr}, SqL K H l (ls.map V.ref) → (∀ d ∈ ls, H d = some (.lst [.str w, .ref h])) → Dp K H (.ref l) (nestP ls.length w zs) := by
  intro ls l hl each
  refine .lst hl ?_
  clear hl
  induction ls with
  | nil => exact .nil
  | cons d t ih => exact .cons (.lst (.inl (.inl (each d List.mem_cons_self))) (.cons (.str w) (.cons (dp_strs (.inl (.inl gh))) .nil))) (ih fun x m => each x (List.mem_cons_of_mem _ m))
theorem pS_str (qs : List (List Nat)) : pS qs = (qs.map wd).map V.str := by unfold pS; rw [List.map_map]; rfl
theorem ch_ok {q : List Nat} (h : q ∈ chN) : PyData.strOk (wd q) = true := by
  have key : ∀ q ∈ chN, PyData.strOk (wd q) = true := by decide +kernel
  exact key q h
include F in
theorem read__law_very_right (h : sp__law_very_right K vs H Q E) : t__law_very_right K E { nx := fun _ H' => Q .non H', rt := Q } (start ["_law_yard", "_law_pattern_here", "_law_word_here", "_law_handed", "_law_told", "_law_way"] vs) H := by
  match vs, h with
  | [_, _, w], ⟨a, rows, l, qs, ds, rfl, hy, rfl, gl, hq, lq, ha, q⟩ =>
    have h60 : rows.length ≤ 60 := by
      obtain ⟨_, _, _, _, _, _, y4, _⟩ := hy
      exact y4
    have lenP : (pS qs).length = qs.length := List.length_map _
    unfold t__law_very_right
    walk_at "s"
    walk_at "1"
    refine ⟨by show 1 ≤ sizeLine; decide, fun z nz => ?_⟩
    have s1 : Same H (upd H z (.lst [.str "a"])) := same_new nz
    have gz : upd H z (.lst [.str "a"]) z = some (.lst [.str "a"]) := upd_same
    refine (show uAdd (.ref l) (.ref z) (upd H z (.lst [.str "a"])) _ from ?_)
    generalize upd H z (.lst [.str "a"]) = H1 at *
    refine ⟨l, z, _, _, rfl, rfl, s1 _ _ gl, gz, ?_, fun h nh => ?_⟩
    · rw [lenP, List.length_singleton, sizeLine_eq]
      omega
    have s2 : Same H1 (upd H1 h (.lst (pS qs ++ [.str "a"]))) := same_new nh
    have gh : upd H1 h (.lst (pS qs ++ [.str "a"])) h = some (.lst (pS qs ++ [.str "a"])) := upd_same
    generalize upd H1 h (.lst (pS qs ++ [.str "a"])) = H2 at *
    have bad : PatB K H2 rows.length (.ref h) false := .inr ⟨h, _, rfl, .inl (.inl (.inl gh)), by rw [List.length_append, lenP, List.length_singleton]; omega, fun v mv => by
      rcases List.mem_append.mp mv with mv | mv
      · exact kinds_ps v mv
      · rw [List.mem_singleton.mp mv]
        exact ⟨.str, is_str _⟩, by rw [List.length_append, lenP, List.length_singleton, decide_eq_false (by omega), Bool.false_and]⟩
    have hy2 := (hy.same s1).same s2
    have s12 := s1.trans s2
    walk_at "s"
    simp only [tAsg]
    refine tLc_rng1 (n := 9) (fun R r => r) (by decide) fun D hD => ?_
    refine lc_fresh (plain_R (lo := 0) (n := 9)) (fun _ => [.str "pattern", .ref h]) hD (by decide) (fun _ _ => trivial) ?_ ?_
    · intro i x H3 Q3 hx s3 go
      have lt : i < 9 := by have := (List.getElem?_eq_some_iff.mp hx).1; simpa [intsL] using this
      have hx : x = .int (i : Nat) := by
        simp [intsL, lt] at hx
        exact hx.symm
      subst hx
      refine ev_call (v1 := .int (i : Nat)) (v2 := .ref a) (v3 := .ref h) (v4 := w) (ev_var rfl) (ev_var rfl) (ev_var rfl) (ev_var rfl) ?_
      have out : Out K H3 (.ref a) (.ref h) w i (RxS H3 "InvalidPattern" (.ref h)) := by
        obtain hi | hi : (i = 0 ∨ i = 1 ∨ i = 2 ∨ i = 3 ∨ i = 7 ∨ i = 8) ∨ (i = 4 ∨ i = 5 ∨ i = 6) := by omega
        · exact out_pat F (hy2.same s3) (bad.same s3) hi
        · exact out_wp F (hy2.same s3) ha (bad.same s3) hi
      exact refused (f := "InvalidPattern") (by decide) (by omega) out fun l2 H4 s4 nl g4 => go l2 H4 nl s4 (by rw [g4]; rfl)
    · intro H3 ls s3 hl gD at_ nd nDl fr
      have hl9 : ls.length = 9 := by rw [hl]; rfl
      have gh3 := s3 _ _ gh
      show tSeq _ _ _ [some (.ref a), some (.ref l), some w, some (.ref h), some (.ref D), none] H3
      walk_at "s"
      walk_at "1"
      refine ⟨tyL gh3, app_of gh3 (by rw [List.length_append, lenP, List.length_singleton]; omega) ?_⟩
      have ghD : h ≠ D := by rintro rfl; rw [gh] at hD; cases hD
      have o4 : Off h H3 (upd H3 h (.lst (pS qs ++ [.str "a"] ++ [.str "more"]))) := off_upd
      have g4 : upd H3 h (.lst (pS qs ++ [.str "a"] ++ [.str "more"])) h = some (.lst ((qs.map wd ++ (["a", "more"] : List Str)).map V.str)) := by
        rw [upd_same, pS_str, List.append_assoc, List.map_append]
        rfl
      generalize upd H3 h (.lst (pS qs ++ [.str "a"] ++ [.str "more"])) = H4 at *
      have s04 : Same H H4 := (Off.trans (Same.off (s12.trans s3)) o4).same (s1.free nh)
      have gD4 := o4 _ _ ghD.symm gD
      have at4 : ∀ d ∈ ls, H4 d = some (.lst [.str "pattern", .ref h]) := fun d md => by
        obtain ⟨k, lt, rfl⟩ := List.mem_iff_getElem.mp md
        exact o4 _ _ (by rintro e; have := fr _ md; rw [e, gh] at this; cases this) (at_ k _ (List.getElem?_eq_getElem lt))
      have ok : ∀ z ∈ qs.map wd ++ (["a", "more"] : List Str), PyData.strOk z = true := fun z mz => by
        rcases List.mem_append.mp mz with mz | mz
        · obtain ⟨q1, mq, rfl⟩ := List.mem_map.mp mz
          exact ch_ok (hq q1 mq)
        · have two : ∀ z ∈ (["a", "more"] : List Str), PyData.strOk z = true := by decide +kernel
          exact two z mz
      clear gD at_ s3 o4 gh3
      walk_at "1"
      refine ⟨by show 2 ≤ sizeLine; decide, fun t nt => ?_⟩
      have s5 : Same H4 (upd H4 t (.lst [.str "pattern", .ref h])) := same_new nt
      have gt : upd H4 t (.lst [.str "pattern", .ref h]) t = some (.lst [.str "pattern", .ref h]) := upd_same
      generalize upd H4 t (.lst [.str "pattern", .ref h]) = H5 at *
      refine ⟨by show 1 ≤ sizeLine; decide, fun u nu => ?_⟩
      have s6 : Same H5 (upd H5 u (.lst [.ref t])) := same_new nu
      have gu : upd H5 u (.lst [.ref t]) u = some (.lst [.ref t]) := upd_same
      generalize upd H5 u (.lst [.ref t]) = H6 at *
      refine ⟨u, 9, _, rfl, rfl, gu, by decide, by decide, by show 1 * 9 ≤ sizeLine; decide, fun v nv => ?_⟩
      have s7 : Same H6 (upd H6 v (.lst (List.replicate (Int.toNat 9) [V.ref t]).flatten)) := same_new nv
      have gv : upd H6 v (.lst (List.replicate (Int.toNat 9) [V.ref t]).flatten) v = some (.lst ((List.replicate 9 t).map V.ref)) := upd_same
      generalize upd H6 v (.lst (List.replicate (Int.toNat 9) [V.ref t]).flatten) = H7 at *
      have s47 := s5.trans (s6.trans s7)
      have d1 := dp_nestP (K := K) (w := "pattern") (s47 _ _ g4) (ls := ls) (l := D) (.inl (.inl (s47 _ _ gD4))) (fun d md => s47 _ _ (at4 d md))
      have d2 := dp_nestP (K := K) (w := "pattern") (s47 _ _ g4) (ls := List.replicate 9 t) (l := v) (.inl (.inl gv)) (fun d md => by rw [List.eq_of_mem_replicate md]; exact (s6.trans s7) _ _ gt)
      rw [hl9] at d1
      rw [List.length_replicate] at d2
      have sh := nestP_shaped (w := "pattern") (by decide +kernel) ok 9
      refine ⟨_, _, d1, d2, sh, sh, ?_⟩
      rw [SeqAt.eqv_refl _ (SeqAt.canLay_of_shaped sh)]
      exact q H7 (s04.trans s47)
/-! ### the small yard -/
def rows2 : List (List (Option Int)) := List.replicate 2 (List.replicate 6 (some 2))
theorem make_yardK {rows : List (List (Option Int))} {v : V} {R : Addr → Hp → Prop} (hr : RowV K H v rows) (ho : RowsOk rows) (hp : PricesOk rows) (q : ∀ x H', Same H H' → H x = none → YdK K H' x rows → (∀ a, ¬ YdR K H' x a) → R x H') :
    ∀ x dx, H x = none → H dx = none → dx ≠ x → sp_Yard_init K [.ref x, v] (upd (upd H dx (.own x)) x (.ins (He.ga K "Yard") dx [])) (fun v H2 => v = .non ∧ R x H2) E := by
  intro x dx hx hdx hne
  have s1 : Same H (upd H dx (.own x)) := same_new hdx
  have hx1 : upd H dx (.own x) x = none := by rw [upd_ne hne.symm]; exact hx
  have s2 : Same (upd H dx (.own x)) (upd (upd H dx (.own x)) x (.ins (He.ga K "Yard") dx [])) := same_new hx1
  refine ⟨x, dx, rfl, upd_same, .inl ⟨rows, hr.same (s1.trans s2), ho, fun H' o hy ⟨d2, t2, g2⟩ => ⟨rfl, q x H' ?_ hx ⟨hy, hp, d2, t2, _, g2, .inl rfl⟩ fun a ⟨d3, t3, g3⟩ => ?_⟩⟩⟩
  · exact Off.same (Off.trans (Same.off (s1.trans s2)) o) hx
  · rw [g2] at g3
    simp at g3
theorem rows2_ok : RowsOk rows2 ∧ PricesOk rows2 := by
  refine ⟨⟨by decide, by decide, by decide⟩, ?_⟩
  have : priced rows2 = List.replicate 12 2 := by decide
  intro p m
  rw [this] at m
  rw [List.eq_of_mem_replicate m]
  exact ⟨by decide, by decide⟩
/-- the list of its prices -/
theorem list2 {σ : L2.St} (q : ∀ v H', Same H H' → RowV K H' v rows2 → Q v H') : tOp uMul (tLst (tCons (tOp uMul (tLst (tCons (tC (.int 2)) tNil)) (tC (.int 6))) tNil)) (tC (.int 2)) σ H Q := by
  refine ⟨by show 1 ≤ sizeLine; decide, fun z1 n1 => ?_⟩
  have s1 : Same H (upd H z1 (.lst [.int 2])) := same_new n1
  have g1 : upd H z1 (.lst [.int 2]) z1 = some (.lst [.int 2]) := upd_same
  walk_at "1"
  generalize upd H z1 (.lst [.int 2]) = H1 at *
  refine ⟨z1, 6, _, rfl, rfl, g1, by decide, by decide, by show 1 * 6 ≤ sizeLine; decide, fun z2 n2 => ?_⟩
  have s2 : Same H1 (upd H1 z2 (.lst (List.replicate (Int.toNat 6) [V.int 2]).flatten)) := same_new n2
  have g2 : upd H1 z2 (.lst (List.replicate (Int.toNat 6) [V.int 2]).flatten) z2 = some (.lst ((List.replicate 6 (some 2)).map pV)) := upd_same
  generalize upd H1 z2 (.lst (List.replicate (Int.toNat 6) [V.int 2]).flatten) = H2 at *
  refine ⟨by show 1 ≤ sizeLine; decide, fun z3 n3 => ?_⟩
  have s3 : Same H2 (upd H2 z3 (.lst [.ref z2])) := same_new n3
  have g3 : upd H2 z3 (.lst [.ref z2]) z3 = some (.lst [.ref z2]) := upd_same
  generalize upd H2 z3 (.lst [.ref z2]) = H3 at *
  refine ⟨z3, 2, _, rfl, rfl, g3, by decide, by decide, by show 1 * 2 ≤ sizeLine; decide, fun z4 n4 => ?_⟩
  have s4 : Same H3 (upd H3 z4 (.lst (List.replicate (Int.toNat 2) [V.ref z2]).flatten)) := same_new n4
  have g4 : upd H3 z4 (.lst (List.replicate (Int.toNat 2) [V.ref z2]).flatten) z4 = some (.lst [.ref z2, .ref z2]) := upd_same
  generalize upd H3 z4 (.lst (List.replicate (Int.toNat 2) [V.ref z2]).flatten) = H4 at *
  refine q _ H4 (s1.trans (s2.trans (s3.trans s4))) ⟨z4, _, rfl, .inl (.inl (.inl g4)), rfl, fun i v r e1 e2 => ?_⟩
  have g24 := s4 _ _ (s3 _ _ g2)
  match i, e1, e2 with
  | 0, e1, e2 => cases e1; cases e2; exact ⟨z2, rfl, .inl (.inl (.inl g24))⟩
  | 1, e1, e2 => cases e1; cases e2; exact ⟨z2, rfl, .inl (.inl (.inl g24))⟩
theorem arr_ab : Arr rows2.length (.str "ab") [0, 1] := ⟨by congr 1, rfl, by unfold D3; decide⟩
theorem arr_ba : Arr rows2.length (.str "ba") [1, 0] := ⟨by congr 1, rfl, by unfold D3; decide⟩
theorem count_shaped : SeqAt.shaped (.list [.str "count", .none]) = true := by
  have e : PyData.strOk "count" = true := by decide +kernel
  simp [SeqAt.shaped, PyData.canLay0, PyData.canLayAll0, PyData.depth, PyData.depthAll, e]
def wordL (ds : List Nat) (a1 a2 : Addr) : List V := [.non, .int 5, .str "", .str (wd ds ++ "a"), .str (wd (ds.take (ds.length - 1)) ++ "d"), .ref a1, .bl true, .ref a2]
theorem arrB_len {n : Nat} {z : Str} (h : z.length ≠ n) : arrB n (.str z) = false := by
  show (decide (z.cps.size = n) && _) = false
  rw [decide_eq_false (show ¬ z.cps.size = n from h), Bool.false_and]
theorem arrB_sign {n c : Nat} {z : Str} (m : c ∈ z.cps.toList) (hc : isPl (.str ⟨#[c]⟩) = false) : arrB n (.str z) = false := by
  have : (strL z).all isPl = false := List.all_eq_false.mpr ⟨.str ⟨#[c]⟩, List.mem_map.mpr ⟨c, m, rfl⟩, by rw [hc]; decide⟩
  show (_ && (strL z).all isPl) = false
  rw [this, Bool.and_false]
theorem cat_signs {x y : Str} {c : Nat} : c ∈ (x ++ y).cps.toList ↔ c ∈ x.cps.toList ∨ c ∈ y.cps.toList := by
  show c ∈ (x.cps ++ y.cps).toList ↔ _
  simp
theorem cat_len (x y : Str) : (x ++ y).length = x.length + y.length := by
  show (x.cps ++ y.cps).size = _
  simp
  rfl
theorem short_of {z : Str} (h : z.length ≤ 100) : Short (.str z) := fun z' ez => by
  injection ez with ez
  rw [← ez]
  exact Nat.le_trans h (by decide)
theorem short_no {v : V} (h : ∀ z, v ≠ .str z) : Short v := fun z ez => absurd ez (h z)
def lettersD (ds : List Nat) : List PyData := ds.map fun d => .str (pl d)
theorem word_at {ds : List Nat} {a1 a2 : Addr} {e : Int} (h3 : D3 ds) (l1 : 1 ≤ ds.length) (l60 : ds.length ≤ 60) (n1 : a1 ≠ b) (g1 : H a1 = some (.lst (ds.map fun d => V.str (pl d)))) (n2 : a2 ≠ b) (g2 : H a2 = some (.dK [])) (h0 : 0 ≤ e) (h8 : e < 8) :
    ∃ w d, atI (wordL ds a1 a2) e = some w ∧ OddW K b H ds.length w d := by
  have td : D3 (ds.take (ds.length - 1)) := fun x m => h3 x (List.mem_of_mem_take m)
  have la : (wd ds ++ "a").length = ds.length + 1 := by rw [cat_len, wd_length]; rfl
  have ld : (wd (ds.take (ds.length - 1)) ++ "d").length ≤ 61 := by
    rw [cat_len, wd_length, List.length_take]
    have : ("d" : Str).length = 1 := by decide +kernel
    omega
  have st : ∀ {z : Str}, (∀ c ∈ z.cps.toList, c < 1000) → z.length ≤ 61 → arrB ds.length (.str z) = false → OddW K b H ds.length (.str z) (.str z) := fun ok len no =>
    ⟨⟨fun _ _ => .qstr _, (slim_str (n := 61) ok len).mono (by decide) (by decide)⟩, fun _ _ => ⟨.str, is_str _, short_of (by omega), no⟩⟩
  obtain rfl | rfl | rfl | rfl | rfl | rfl | rfl | rfl : e = 0 ∨ e = 1 ∨ e = 2 ∨ e = 3 ∨ e = 4 ∨ e = 5 ∨ e = 6 ∨ e = 7 := by omega
  · exact ⟨_, .none, rfl, ⟨fun _ _ => .qnon, slimB_ok (by decide +kernel)⟩, fun _ _ => ⟨_, is_non, short_no (fun _ z => nomatch z), rfl⟩⟩
  · exact ⟨_, .int 5, rfl, ⟨fun _ _ => .qint 5, slimB_ok (by decide +kernel)⟩, fun _ _ => ⟨_, is_int 5, short_no (fun _ z => nomatch z), rfl⟩⟩
  · exact ⟨_, _, rfl, st (by decide +kernel) (by decide +kernel) (arrB_len (by show 0 ≠ _; omega))⟩
  · exact ⟨_, _, rfl, st (fun c m => (cat_signs.mp m).elim (wd_sign h3 c) fun m => (by decide +kernel : ∀ c ∈ ("a" : Str).cps.toList, c < 1000) c m) (by omega) (arrB_len (by omega))⟩
  · exact ⟨_, _, rfl, st (fun c m => (cat_signs.mp m).elim (wd_sign td c) fun m => (by decide +kernel : ∀ c ∈ ("d" : Str).cps.toList, c < 1000) c m) ld (arrB_sign (c := 100) (cat_signs.mpr (.inr (by decide +kernel))) (by decide +kernel))⟩
  · refine ⟨_, .list (lettersD ds), rfl, ⟨fun H' o => .qlst (.inl (.inl (o _ _ n1 g1))) (dq_all fun d _ => .qstr (pl d)), ?_⟩, fun H' o => ⟨_, is_lst (o _ _ n1 g1), short_no (fun _ z => nomatch z), rfl⟩⟩
    refine (slim_list (B := 12) (D := 1) (n := 60) (fun d m => ?_) (by unfold lettersD; rw [List.length_map]; exact l60)).mono (by decide) (by decide)
    obtain ⟨x, mx, rfl⟩ := List.mem_map.mp m
    have := h3 x mx
    exact slim_str (n := 1) (fun c mc => by simp [pl] at mc; omega) (by show 1 ≤ 1; decide)
  · exact ⟨_, .bool true, rfl, ⟨fun _ _ => .qbl true, slimB_ok (by decide +kernel)⟩, fun _ _ => ⟨_, is_bl true, short_no (fun _ z => nomatch z), rfl⟩⟩
  · exact ⟨_, .dict [], rfl, ⟨fun H' o => .qdct (o _ _ n2 g2) rfl .qnil, slimB_ok (by decide +kernel)⟩, fun H' o => ⟨_, is_dct (o _ _ n2 g2), short_no (fun _ z => nomatch z), rfl⟩⟩
include F in
theorem read__law_right (h : sp__law_right K vs H Q E) : t__law_right K E { nx := fun _ H' => Q .non H', rt := Q } (start ["_law_box_here", "_law_yard", "_law_pattern_here", "_law_word_here", "_law_odd_here", "_law_bad", "_law_way"] vs) H := by
  match vs, h with
  | [_, _, _, _], ⟨b, m, y, rows, l, qs, ds, rfl, rfl, hy, rfl, gl, nl, hq, lq, ⟨rfl, ld, d3⟩, hb, hm, q⟩ =>
    have h60 : rows.length ≤ 60 ∧ 1 ≤ rows.length := by
      obtain ⟨_, _, _, _, _, _, y4, y5, _⟩ := hy
      exact ⟨y4, y5⟩
    obtain ⟨lb, gb⟩ := hb.at_
    have hyO : ∀ {H' : Hp}, Off b H H' → Yd K H' y rows := fun o => hy.offL o gb
    have sy : Sy H b m [(l, .lst (pS qs))] H := (Sy.begin hb).have_ nl gl
    unfold t__law_right
    walk_at "s"
    walk_at "1"
    refine ⟨b, m, l, qs, rfl, rfl, gl, nl, hq, by omega, by omega, hb, by omega, fun ov od H1 o1 b1 odd => ?_⟩
    have sy : Sy H1 b (m + 3) [(l, .lst (pS qs))] H1 := ⟨b1, (sy.take o1 b1).hd, Off.refl⟩
    rw [lq] at odd
    walk_at "s"
    walk_at "1"
    have hcut : cutS (wd ds) none (some (-1)) = wd (ds.take (ds.length - 1)) := by
      rw [cut_wd]
      have e1 : HT.sIx ds.length 0 (none : Option Int) = 0 := rfl
      have e2 : HT.sIx ds.length ds.length (some (-1)) = ds.length - 1 := by
        show (if (-1 : Int) < 0 then ((-1 : Int) + (ds.length : Int)).toNat else min (-1 : Int).toNat ds.length) = _
        rw [if_pos (by decide)]
        omega
      rw [e1, e2]
      rfl
    rw [hcut]
    have la : ∀ z : Str, z.length = 1 → ∀ es : List Nat, es.length ≤ 60 → (wd es).length + z.length ≤ sizeLine := fun z h es l => by rw [wd_length, h]; exact Nat.le_trans (show _ ≤ 61 by omega) (by decide)
    refine ⟨la _ (by decide +kernel) _ (by omega), by rw [wd_length, sizeLine_eq]; omega, la _ (by decide +kernel) _ (by rw [List.length_take]; omega), by rw [wd_length]; omega, fun a1 n1 => ?_⟩
    rw [strL_wd]
    have sy := sy.new (o := .lst (ds.map fun d => V.str (pl d))) n1
    generalize upd H1 a1 (.lst (ds.map fun d => V.str (pl d))) = H2 at *
    refine fun a2 n2 => ?_
    have sy := sy.new (o := .dK []) n2
    generalize upd H2 a2 (.dK []) = H3 at *
    refine ⟨by show 8 ≤ sizeLine; decide, fun p1 np1 => ?_⟩
    have sy := sy.new (o := .lst (wordL ds a1 a2)) np1
    refine (show sp__law_take K [.ref b, .int 8] (upd H3 p1 (.lst (wordL ds a1 a2))) _ _ from ?_)
    generalize upd H3 p1 (.lst (wordL ds a1 a2)) = H4 at *
    refine take_of sy.bx (by omega) (by omega) (by omega) fun e H5 e0 e8 o5 b5 => ?_
    have o04 := sy.off
    have sy := sy.take o5 b5
    obtain ⟨bv, bd, hat, bad⟩ := word_at (K := K) (b := b) d3 (by omega) (by omega) (sy.nb 2 rfl) (sy.at_ 2 rfl) (sy.nb 1 rfl) (sy.at_ 1 rfl) e0 e8
    refine uIx_lst (sy.at_ 0 rfl) hat ?_
    rw [ld] at bad
    have odd := odd.off sy.off
    have o05 := o1.trans sy.off
    have hy5 := hyO o05
    have gl5 := sy.at_ 3 rfl
    have q : ∀ H', Same H5 H' → Q (.bl true) H' := fun H' s => q H' (o05.trans (Same.off s)) ((sy.bx.mono (by omega)).same s)
    have arr : Arr rows.length (.str (wd ds)) ds := ⟨rfl, ld, d3⟩
    have hpt : ∀ {H'}, Same H5 H' → Pt K H' rows.length (.ref l) qs := fun s => ⟨l, rfl, .inl (.inl (.inl (s _ _ gl5))), lq, hq⟩
    clear sy hat n1 n2 np1 hyO o1 b1 o5 b5 o04 hcut la o05
    -- what is a pattern
    walk_at "s"
    walk_at "1"
    refine yardOr_of F hy5 ⟨false, odd.p _ Off.refl, fun H6 s6 => ?_⟩
    walk_at "1"
    refine ⟨_, .inl ⟨.inl (.inl (s6 _ _ gl5)), fun t nt => ?_⟩⟩
    have s7 : Same H6 (upd H6 t (.tup (pS qs))) := same_new nt
    have gt : upd H6 t (.tup (pS qs)) t = some (.tup (pS qs)) := upd_same
    generalize upd H6 t (.tup (pS qs)) = H7 at *
    have s57 := s6.trans s7
    have ptT : PatB K H7 rows.length (.ref t) true := Pt.patB (qs := qs) (by omega) ⟨t, rfl, .inr (.inl (.inl gt)), lq, hq⟩
    refine yardOr_of F (hy5.same s57) ⟨true, ptT, fun H8 s8 => ?_⟩
    walk_at "1"
    have s58 := s57.trans s8
    clear s6 s7 s8 gt ptT s57
    -- doors that ask for a pattern first
    rw [if_neg (by decide)]
    walk_at "s"
    refine for_rng1 (n := 4) (fun R r => r) (by decide) (fun i σ H' => Same H5 H' ∧ ∃ x6, σ = [some (.ref b), some (.ref y), some (.ref l), some (.str (wd ds)), some ov, some bv, x6]) ⟨s58, _, rfl⟩ ?_ ?_
    · rintro i σ H9 hi ⟨s9, x6, rfl⟩
      simp only [gName, List.set_cons_zero, List.set_cons_succ]
      exact test_cr (f := "InvalidPattern") (i := i) (y := .ref y) (x := ov) (z := bv) (v := ov) (ev_var rfl) (ev_var rfl) (ev_var rfl) (ev_var rfl) (ev_var rfl) (by decide) (by decide +kernel) (by omega) (out_pat F (hy5.same s9) (odd.p _ (Same.off s9)) (by omega)) b (odd.t.off (Same.off s9)) fun H10 s10 => ⟨s9.trans s10, _, rfl⟩
    rintro σ H9 ⟨s9, x6, rfl⟩
    -- a pattern, and no arrangement
    walk_at "s"
    refine for_rng1 (n := 3) (fun R r => r) (by decide) (fun i σ H' => Same H5 H' ∧ ∃ x6, σ = [some (.ref b), some (.ref y), some (.ref l), some (.str (wd ds)), some ov, some bv, x6]) ⟨s9, _, rfl⟩ ?_ ?_
    · rintro i σ H9 hi ⟨s9, x6, rfl⟩
      simp only [gName, List.set_cons_zero, List.set_cons_succ]
      exact test_cr (f := "InvalidArrangement") (i := i) (y := .ref y) (x := .ref l) (z := bv) (v := bv) (ev_var rfl) (ev_var rfl) (ev_var rfl) (ev_var rfl) (ev_var rfl) (by decide) (by decide +kernel) (by omega) (out_pw F (hy5.same s9) (hpt s9) (bad.p _ (Same.off s9)) (by omega)) b (bad.t.off (Same.off s9)) fun H10 s10 => ⟨s9.trans s10, _, rfl⟩
    rintro σ H10 ⟨s10, x7, rfl⟩
    clear s9 s58
    -- an arrangement asked for first
    walk_at "s"
    refine tFor_seqL ?_
    refine ⟨by show 3 ≤ sizeLine; decide, fun t4 n4 => ⟨t4, rfl, ⟨_, .inl (.inl upd_same)⟩, ?_⟩⟩
    have s11 := s10.trans (same_new (o := .lst [.int 4, .int 5, .int 6]) n4)
    have g4 : upd H10 t4 (.lst [.int 4, .int 5, .int 6]) t4 = some (.lst [.int 4, .int 5, .int 6]) := upd_same
    refine (show tFor _ _ _ _ _ (upd H10 t4 (.lst [.int 4, .int 5, .int 6])) from ?_)
    generalize upd H10 t4 (.lst [.int 4, .int 5, .int 6]) = H11 at *
    refine laps_pl (plain_L (K := K) (a := t4) (xs := [.int 4, .int 5, .int 6])) (fun i σ H' => Same H5 H' ∧ Same H11 H' ∧ ∃ x6, σ = [some (.ref b), some (.ref y), some (.ref l), some (.str (wd ds)), some ov, some bv, x6]) ⟨s11, Same.refl _, _, rfl⟩ (fun i σ H' z => .inl (.inl (z.2.1 _ _ g4))) ?_ ?_
    · rintro i x σ H12 hx ⟨s12, s12', x6, rfl⟩
      obtain ⟨k, rfl, hk⟩ : ∃ k : Nat, x = .int (k : Nat) ∧ (k = 4 ∨ k = 5 ∨ k = 6) := by
        match i, hx with
        | 0, hx => cases hx; exact ⟨4, rfl, .inl rfl⟩
        | 1, hx => cases hx; exact ⟨5, rfl, .inr (.inl rfl)⟩
        | 2, hx => cases hx; exact ⟨6, rfl, .inr (.inr rfl)⟩
      simp only [gName, List.set_cons_zero, List.set_cons_succ]
      walk_at "s"
      refine test_cr (f := "InvalidArrangement") (i := k) (y := .ref y) (x := ov) (z := bv) (v := bv) (ev_var rfl) (ev_var rfl) (ev_var rfl) (ev_var rfl) (ev_var rfl) (by decide) (by decide +kernel) (by omega) (out_w F (hy5.same s12) (bad.p _ (Same.off s12)) hk) b (bad.t.off (Same.off s12)) fun H13 s13 => ?_
      refine test_cr (f := "InvalidPattern") (i := k) (y := .ref y) (x := ov) (z := .str (wd ds)) (v := ov) (ev_var rfl) (ev_var rfl) (ev_var rfl) (ev_var rfl) (ev_var rfl) (by decide) (by decide +kernel) (by omega) (out_wp F (hy5.same (s12.trans s13)) arr (odd.p _ (Same.off (s12.trans s13))) hk) b (odd.t.off (Same.off (s12.trans s13))) fun H14 s14 => ?_
      exact ⟨(s12.trans s13).trans s14, (s12'.trans s13).trans s14, _, rfl⟩
    rintro σ H12 ⟨s12, _, x8, rfl⟩
    clear s10 s11 g4 n4
    -- two patterns
    walk_at "s"
    refine tFor_seqL ?_
    refine ⟨by show 2 ≤ sizeLine; decide, fun t5 n5 => ⟨t5, rfl, ⟨_, .inl (.inl upd_same)⟩, ?_⟩⟩
    have s13 := s12.trans (same_new (o := .lst [.int 7, .int 8]) n5)
    have g5 : upd H12 t5 (.lst [.int 7, .int 8]) t5 = some (.lst [.int 7, .int 8]) := upd_same
    refine (show tFor _ _ _ _ _ (upd H12 t5 (.lst [.int 7, .int 8])) from ?_)
    generalize upd H12 t5 (.lst [.int 7, .int 8]) = H13 at *
    refine laps_pl (plain_L (K := K) (a := t5) (xs := [.int 7, .int 8])) (fun i σ H' => Same H5 H' ∧ Same H13 H' ∧ ∃ x6, σ = [some (.ref b), some (.ref y), some (.ref l), some (.str (wd ds)), some ov, some bv, x6]) ⟨s13, Same.refl _, _, rfl⟩ (fun i σ H' z => .inl (.inl (z.2.1 _ _ g5))) ?_ ?_
    · rintro i x σ H14 hx ⟨s14, s14', x6, rfl⟩
      obtain ⟨k, rfl, hk⟩ : ∃ k : Nat, x = .int (k : Nat) ∧ (k = 7 ∨ k = 8) := by
        match i, hx with
        | 0, hx => cases hx; exact ⟨7, rfl, .inl rfl⟩
        | 1, hx => cases hx; exact ⟨8, rfl, .inr rfl⟩
      simp only [gName, List.set_cons_zero, List.set_cons_succ]
      walk_at "s"
      refine test_cr (f := "InvalidPattern") (i := k) (y := .ref y) (x := ov) (z := bv) (v := ov) (ev_var rfl) (ev_var rfl) (ev_var rfl) (ev_var rfl) (ev_var rfl) (by decide) (by decide +kernel) (by omega) (out_pat F (hy5.same s14) (odd.p _ (Same.off s14)) (by omega)) b (odd.t.off (Same.off s14)) fun H15 s15 => ?_
      refine test_cr (f := "InvalidPattern") (i := k) (y := .ref y) (x := .ref l) (z := ov) (v := ov) (ev_var rfl) (ev_var rfl) (ev_var rfl) (ev_var rfl) (ev_var rfl) (by decide) (by decide +kernel) (by omega) (out_pp F (hy5.same (s14.trans s15)) (hpt (s14.trans s15)) (odd.p _ (Same.off (s14.trans s15))) hk) b (odd.t.off (Same.off (s14.trans s15))) fun H16 s16 => ?_
      exact ⟨(s14.trans s15).trans s16, (s14'.trans s15).trans s16, _, rfl⟩
    rintro σ H14 ⟨s14, _, x9, rfl⟩
    clear s12 s13 g5 n5
    -- two arrangements
    walk_at "s"
    refine tFor_seqL ?_
    refine ⟨by show 2 ≤ sizeLine; decide, fun t6 n6 => ⟨t6, rfl, ⟨_, .inl (.inl upd_same)⟩, ?_⟩⟩
    have s15 := s14.trans (same_new (o := .lst [.int 9, .int 10]) n6)
    have g6 : upd H14 t6 (.lst [.int 9, .int 10]) t6 = some (.lst [.int 9, .int 10]) := upd_same
    refine (show tFor _ _ _ _ _ (upd H14 t6 (.lst [.int 9, .int 10])) from ?_)
    generalize upd H14 t6 (.lst [.int 9, .int 10]) = H15 at *
    refine laps_pl (plain_L (K := K) (a := t6) (xs := [.int 9, .int 10])) (fun i σ H' => Same H5 H' ∧ Same H15 H' ∧ ∃ x6, σ = [some (.ref b), some (.ref y), some (.ref l), some (.str (wd ds)), some ov, some bv, x6]) ⟨s15, Same.refl _, _, rfl⟩ (fun i σ H' z => .inl (.inl (z.2.1 _ _ g6))) ?_ ?_
    · rintro i x σ H16 hx ⟨s16, s16', x6, rfl⟩
      obtain ⟨k, rfl, hk⟩ : ∃ k : Nat, x = .int (k : Nat) ∧ (k = 9 ∨ k = 10) := by
        match i, hx with
        | 0, hx => cases hx; exact ⟨9, rfl, .inl rfl⟩
        | 1, hx => cases hx; exact ⟨10, rfl, .inr rfl⟩
      simp only [gName, List.set_cons_zero, List.set_cons_succ]
      walk_at "s"
      refine test_cr (f := "InvalidArrangement") (i := k) (y := .ref y) (x := bv) (z := ov) (v := bv) (ev_var rfl) (ev_var rfl) (ev_var rfl) (ev_var rfl) (ev_var rfl) (by decide) (by decide +kernel) (by omega) (out_a F (hy5.same s16) (bad.p _ (Same.off s16)) hk) b (bad.t.off (Same.off s16)) fun H17 s17 => ?_
      refine test_cr (f := "InvalidArrangement") (i := k) (y := .ref y) (x := .str (wd ds)) (z := bv) (v := bv) (ev_var rfl) (ev_var rfl) (ev_var rfl) (ev_var rfl) (ev_var rfl) (by decide) (by decide +kernel) (by omega) (out_aa F (hy5.same (s16.trans s17)) arr (bad.p _ (Same.off (s16.trans s17))) hk) b (bad.t.off (Same.off (s16.trans s17))) fun H18 s18 => ?_
      exact ⟨(s16.trans s17).trans s18, (s16'.trans s17).trans s18, _, rfl⟩
    rintro σ H16 ⟨s16, _, x10, rfl⟩
    clear s14 s15 g6 n6
    -- no cost
    walk_at "1"
    simp only [tMake]
    refine list2 (K := K) fun v H17 s17 hv => ?_
    walk_at "1"
    refine make_yardK hv rows2_ok.1 rows2_ok.2 fun x H18 s18 nx hyk nr => ?_
    have out := out_cost hyk arr_ab arr_ba
    refine ⟨10, _, rfl, by decide, out, fun f w H19 ⟨ef, ew, H', md, hy', s19⟩ => ?_⟩
    subst ef ew
    obtain ⟨sB, _⟩ := md.bs H17 s18 nx (fun a ya => (nr a ya).elim)
    refine ⟨by decide, fun c H20 s20 nc gc => ?_⟩
    refine ⟨by show 2 ≤ sizeLine; decide, fun c2 nc2 => ?_⟩
    have s21 : Same H20 (upd H20 c2 (.lst [.str "count", .non])) := same_new nc2
    have gc2 : upd H20 c2 (.lst [.str "count", .non]) c2 = some (.lst [.str "count", .non]) := upd_same
    generalize upd H20 c2 (.lst [.str "count", .non]) = H21 at *
    have gc1 := s21 _ _ gc
    refine ⟨.list [.str "count", .none], .list [.str "count", .none], .lst (.inl (.inl gc1)) (.cons (.str _) (.cons .non .nil)), .lst (.inl (.inl gc2)) (.cons (.str _) (.cons .non .nil)), count_shaped, count_shaped, ?_⟩
    rw [SeqAt.eqv_refl _ (SeqAt.canLay_of_shaped count_shaped)]
    exact q H21 (s16.trans (s17.trans (sB.trans (s19.trans (s20.trans s21)))))
end
end U
namespace U
open PySem PySem.Spec PyProof.Rows L2

def t_law (K : PySem.W.Frag) (E : XK) : TS := (tSeq (tFor (iRng1 (tCons (tCB uMax2 (tCons (tC (.int 2)) (tCons (tCB uMin2 (tCons (tC (.int 5)) (tCons (tCB (uLen K) (tCons (tVar 0) tNil)) tNil))) tNil))) tNil)) (gName 1) (tSeq (tAsg (tFn (sp__law_box K) E (tCons (tFn (sp__law_cell K) E (tCons (tVar 0) (tCons (tVar 1) tNil))) tNil)) (gName 2)) (tSeq (tAsg (tFn (sp__law_size K) E (tCons (tVar 2) (tCons (tOp (uIx K) (tLst (tCons (tC (.int 3)) (tCons (tC (.int 8)) (tCons (tC (.int 60)) tNil)))) (tFn (sp__law_take K) E (tCons (tVar 2) (tCons (tC (.int 3)) tNil)))) tNil))) (gName 3)) (tSeq (tPar 4 5 (tCons (tMake (He.ga K "Yard") (sp_Yard_init K) [] E (tCons (tFn (sp__law_plain K) E (tCons (tVar 2) (tCons (tVar 3) tNil))) tNil)) (tCons (tFn (sp__law_pattern K) E (tCons (tVar 2) (tCons (tVar 3) tNil))) tNil))) (tSeq (tAsg (tCB (uLst K) (tCons (tVar 5) tNil)) (gName 6)) (tSeq (tFor (iRng1 (tCons (tC (.int 3)) tNil)) (gName 7) (tSeq (tAsg (tFn (sp__law_word K) E (tCons (tVar 2) (tCons (tVar 3) tNil))) (gName 8)) (tSeq (tIfS (tTest (tOp (uNe K) (tCB (uReprQ K) (tCons (tFn (sp_fits K) E (tCons (tVar 4) (tCons (tVar 5) (tCons (tVar 8) tNil)))) tNil)) (tCB (uReprQ K) (tCons (tFn (sp__law_fits K) E (tCons (tVar 5) (tCons (tVar 8) tNil))) tNil)))) (tRet (tC (.bl false))) tNext) (tSeq (tAsg (tJoin K (tC (.str "")) (tLc (iSeq K (tVar 5)) (gName 9) tYes (tOp (uIx K) (tVar 9) (tFn (sp__law_take K) E0 (tCons (tVar 2) (tCons (tCB (uLen K) (tCons (tVar 9) tNil)) tNil)))) [9])) (gName 10)) (tSeq (tIfS (tOr (tTest (tOp uNis (tFn (sp_fits K) E (tCons (tVar 4) (tCons (tCB (uTup K) (tCons (tVar 5) tNil)) (tCons (tVar 10) tNil)))) (tC (.bl true)))) (tNot (tB (tFn (sp__law_right K) E (tCons (tVar 2) (tCons (tVar 4) (tCons (tVar 5) (tCons (tVar 8) tNil)))))))) (tRet (tC (.bl false))) tNext) (tIfS (tNot (tB (tFn (sp__law_very_right K) E (tCons (tVar 4) (tCons (tVar 5) (tCons (tVar 8) tNil)))))) (tRet (tC (.bl false))) tNext)))))) (tSeq (tAsg (tC (.int 1)) (gName 11)) (tSeq (tFor (iSeq K (tVar 5)) (gName 9) (tAsg (tOp uMul (tVar 11) (tCB (uLen K) (tCons (tVar 9) tNil))) (gName 11))) (tSeq (tIfS (tOr (tTest (tOp (uNe K) (tCB (uReprQ K) (tCons (tFn (sp_how_many_fit K) E (tCons (tVar 4) (tCons (tVar 5) tNil))) tNil)) (tCB (uReprQ K) (tCons (tVar 11) tNil)))) (tTest (tOp (uNe K) (tVar 5) (tVar 6)))) (tRet (tC (.bl false))) tNext) (tSeq (tAsg (tOp (uIx K) (tLst (tCons (tC .non) (tCons (tC (.int 5)) (tCons (tC (.str "abc")) (tCons tDNewK (tCons (tC (.bl true)) (tCons (tVar 6) tNil))))))) (tFn (sp__law_take K) E (tCons (tVar 2) (tCons (tC (.int 6)) tNil)))) (gName 12)) (tSeq (tFor (iRng1 (tCons (tC (.int 12)) tNil)) (gName 13) (tIfS (tTest (tOp (uNe K) (tCB (uReprQ K) (tCons (tFn (sp__law_caught K) E (tCons (tVar 13) (tCons (tVar 12) (tCons (tVar 6) (tCons (tC .non) tNil))))) tNil)) (tCB (uReprQ K) (tCons (tLst (tCons (tC (.str "yard")) (tCons (tVar 12) tNil))) tNil)))) (tRet (tC (.bl false))) tNext)) (tFor (iSeq K (tLst (tCons (tUn (rU fun i => .int (-i)) (tC (.int 1))) (tCons (tC (.bl true)) (tCons (tC (.str "1")) (tCons (tLst (tCons (tC (.int 0)) tNil)) tNil)))))) (gName 14) (tTry (fun cls d _ H => E cls d H) (fun W => (tSeq (tDrop (tFnS (sp_home_within K) W (tCons (tMakeS (He.ga K "Yard") (sp_Yard_init K) W (tCons (tOp uMul (tLst (tCons (tOp uMul (tLst (tCons (tC (.int 2)) tNil)) (tC (.int 6))) tNil)) (tC (.int 2))) tNil)) (tCons (tC (.str "ab")) (tCons (tC (.str "ba")) (tCons (tVar 14) tNil)))))) (tRet (tC (.bl false))))) [⟨(fun cls => PySem.W.exmOne K cls (.ref (He.ga K "InvalidCount"))), some 15, fun a cls d => (tIfS (tTest (tOp (uNe K) (tCB (uReprQ K) (tCons (tXv K a cls d "value" (tVar 15)) tNil)) (tCB (uReprQ K) (tCons (tVar 14) tNil)))) (tRet (tC (.bl false))) tNext)⟩]))))))))))))) (tRet (tC (.bl true))))
section
variable {K : PySem.W.Frag} (F : KF K) (C : XF K "CratesError" excN) {vs : List V} {H H' : Hp} {Q : VK} {E : XK}
local macro_rules | `(tactic| walk_at "w") => `(tactic| try simp only [turnE, lcT, Snoc, tRet, tRetN, tAndV, tOrV, tNotV, tCB, tCons, tVar, tNil, tC, tOp, tSeq, tAsg, gName, gSub, tIfS, tDrop, tFn, tTup, tLst, tNext, tB, tTest, tNot, tAnd, tOr, tIf, tChain, tUn, rU, tFld, tPart, tNoPart, L2.tSl, tBM, tPar, tPar3, tTruth, tDNewK,
  L2.start, List.map_cons, List.map_nil, List.length_cons, List.length_nil, List.replicate_succ, List.replicate_zero, List.append_nil, List.nil_append, List.cons_append, List.singleton_append, Nat.sub_self, Nat.zero_add, Nat.reduceAdd, Nat.reduceSub,
  List.getElem?_cons_zero, List.getElem?_cons_succ, List.set_cons_zero, List.set_cons_succ, Option.some.injEq, exists_eq_left, exists_eq_left', V.int.injEq, V.bl.injEq, V.str.injEq, V.ref.injEq,
  uAdd_int, uAdd_str, uSub_int, uMul_int, uMul_str, uDiv_int, uMod_int, uPow_int, uLt_int, uLe_int, uGt_int, uGe_int, uIs_non, uNis_non, uIs_bl, uNis_bl, sp1, sp2, sp3, sp4, uEq_int, uEq_str, uNe_int, uNe_str, uSl_str, uLen_str, decide_eq_true_eq])
local macro_rules | `(tactic| walk_at "1") => `(tactic| try simp only [turnE, lcT, Snoc, tRet, tRetN, tAndV, tOrV, tNotV, tCB, tCons, tVar, tNil, tC, tOp, tAsg, gName, gSub, tIfS, tDrop, tFn, tTup, tLst, tNext, tB, tTest, tNot, tAnd, tOr, tIf, tChain, tUn, rU, tFld, tPart, tNoPart, L2.tSl, tBM, tPar, tPar3, tTruth, tDNewK,
  L2.start, List.map_cons, List.map_nil, List.length_cons, List.length_nil, List.replicate_succ, List.replicate_zero, List.append_nil, List.nil_append, List.cons_append, List.singleton_append, Nat.sub_self, Nat.zero_add, Nat.reduceAdd, Nat.reduceSub,
  List.getElem?_cons_zero, List.getElem?_cons_succ, List.set_cons_zero, List.set_cons_succ, Option.some.injEq, exists_eq_left, exists_eq_left', V.int.injEq, V.bl.injEq, V.str.injEq, V.ref.injEq,
  uAdd_int, uAdd_str, uSub_int, uMul_int, uMul_str, uDiv_int, uMod_int, uPow_int, uLt_int, uLe_int, uGt_int, uGe_int, uIs_non, uNis_non, uIs_bl, uNis_bl, sp1, sp2, sp3, sp4, uEq_int, uEq_str, uNe_int, uNe_str, uSl_str, uLen_str, decide_eq_true_eq])
local macro_rules | `(tactic| walk_at "s") => `(tactic| ((try dsimp only [turnE]); with_reducible refine seq_ ?_))

theorem size_at {e : Int} (h0 : 0 ≤ e) (h1 : e < 3) : ∃ k : Int, atI [V.int 3, .int 8, .int 60] e = some (.int k) ∧ 1 ≤ k ∧ k ≤ 60 := by
  obtain rfl | rfl | rfl : e = 0 ∨ e = 1 ∨ e = 2 := by omega
  · exact ⟨3, rfl, by decide, by decide⟩
  · exact ⟨8, rfl, by decide, by decide⟩
  · exact ⟨60, rfl, by decide, by decide⟩
/-! ### pieces -/
theorem tLc_seq' {t : TE} {σ : L2.St} {g : TG} {tt : TT} {te : TE} {vs : List Nat} {p : Addr} {xs : List V} (h : H p = some (.lst xs)) (ht : ∀ Q : VK, t σ H Q = Q (.ref p) H)
    (hc : ∀ D, H D = none → LcB (Itl K p) g tt te vs σ H D (Q (.ref D))) : tLc (iSeq K t) g tt te vs σ H Q := by
  refine .inl ?_
  show t σ H _
  rw [ht]
  exact ⟨p, rfl, ⟨xs, .inl (.inl h)⟩, hc⟩
theorem repr_bl {x : Bool} {R : VK} (q : R (.str (PyData.bool x).shown) H) : uReprQ K [.bl x] H R :=
  have s : Slim 50000 8 (.bool x) := by cases x <;> exact slimB_ok (by decide +kernel)
  ⟨_, _, rfl, .qbl x, s.1, Nat.le_trans s.2.1 (by decide), Nat.le_trans s.2.2.1 (by decide), q⟩
theorem prod_le {qs : List (List Nat)} (h : PtN qs) : 1 ≤ prodL qs ∧ prodL qs ≤ 3 ^ qs.length := by
  have key : ∀ k, k ≤ qs.length → 1 ≤ prodL (qs.take k) ∧ prodL (qs.take k) ≤ 3 ^ k := by
    intro k
    induction k with
    | zero =>
      intro _
      have e : prodL (qs.take 0) = 1 := rfl
      rw [e]
      exact ⟨by decide, by decide⟩
    | succ k ih =>
      intro hk
      obtain ⟨i1, i2⟩ := ih (by omega)
      have e := List.getElem?_eq_getElem (show k < qs.length from hk)
      rw [prodL_snoc e]
      obtain ⟨_, l1, l3⟩ := chN_ok (h _ (List.getElem_mem hk))
      generalize qs[k] = q at *
      constructor
      · have : (1 : Int) * 1 ≤ prodL (qs.take k) * (q.length : Int) := Int.mul_le_mul i1 (by omega) (by decide) (by omega)
        omega
      · rw [Int.pow_succ]
        exact Int.mul_le_mul i2 (by omega) (by omega) (by exact Int.le_of_lt (Int.pow_pos (by decide)))
  have := key qs.length (Nat.le_refl _)
  rwa [List.take_length] at this
/-- an arrangement near a pattern -/
theorem near_ {b l : Addr} {m : Int} {qs : List (List Nat)} {σ : L2.St} (h2 : σ[2]? = some (some (.ref b))) (h5 : σ[5]? = some (some (.ref l))) (l9 : 9 < σ.length) (hb : Bx H b m) (hm : m ≤ 900000) (gl : H l = some (.lst (pS qs))) (nl : l ≠ b) (hq : PtN qs) (h60 : qs.length ≤ 60)
    (q : ∀ ds H', Off b H H' → Bx H' b (m + 60) → ds.length = qs.length → D3 ds → fitsB qs ds = true → Q (.str (wd ds)) H') :
    tJoin K (tC (.str "")) (tLc (iSeq K (tVar 5)) (gName 9) tYes (tOp (uIx K) (tVar 9) (tFn (sp__law_take K) E0 (tCons (tVar 2) (tCons (tCB (uLen K) (tCons (tVar 9) tNil)) tNil)))) [9]) σ H Q := by
  simp only [tJoin, tM1, tC]
  refine ⟨⟨_, rfl⟩, ?_⟩
  have lenP : (pS qs).length = qs.length := List.length_map _
  refine tLc_seq' (p := l) gl (fun Q => tVar_eq h5 Q) fun D hD => ?_
  have hDb := hb.ne hD
  have hDl : D ≠ l := by rintro rfl; rw [gl] at hD; cases hD
  refine lc_plain (plain_L (K := K) (a := l) (xs := pS qs)) (fun i H' => ∃ ds, ds.length = i ∧ D3 ds ∧ fitsB (qs.take i) ds = true ∧ H' D = some (.lst (ds.map fun d => V.str (pl d))) ∧ Bx H' b (m + i) ∧ Off b H H') ⟨[], rfl, (fun d z => nomatch z), rfl, upd_same, (hb.same (same_new hD)).mono (by omega), Same.off (same_new hD)⟩ (fun i H' z => .inl (.inl (z.choose_spec.2.2.2.2.2 _ _ nl gl))) ?_ ?_
  · rintro i x H1 hx ⟨ds, h1, hd3, hf, h3, h4, o1⟩
    unfold pS at hx
    rw [List.getElem?_map] at hx
    obtain ⟨q1, hq1, rfl⟩ := Option.map_eq_some_iff.mp hx
    have lt := (List.getElem?_eq_some_iff.mp hq1).1
    obtain ⟨c3, c1, c2⟩ := chN_ok (hq q1 (List.mem_of_getElem? hq1))
    simp only [lcT, gName]
    refine ⟨by simp only [wipe, List.set_set], ?_⟩
    have e9 : ((wipe σ [9]).set 9 (some (.str (wd q1))))[9]? = some (some (.str (wd q1))) := by
      simp only [wipe]
      rw [List.set_set, List.getElem?_set_self l9]
    have e2 : ((wipe σ [9]).set 9 (some (.str (wd q1))))[2]? = some (some (.ref b)) := by
      simp only [wipe]
      rw [List.set_set, List.getElem?_set_ne (by decide)]
      exact h2
    generalize (wipe σ [9]).set 9 (some (V.str (wd q1))) = τ at *
    simp only [tYes, if_true]
    refine ⟨_, e9, _, e2, _, e9, by rw [wd_length]; exact Nat.le_trans c2 (by decide), ?_⟩
    rw [wd_length]
    refine ⟨b, m + i, (q1.length : Int), rfl, rfl, by omega, by omega, h4, by omega, fun d H2 d0 d1 o2 b2 => ?_⟩
    obtain ⟨k, rfl⟩ : ∃ k : Nat, d = (k : Int) := ⟨d.toNat, by omega⟩
    have lk : k < q1.length := by omega
    refine str_one (by omega) (List.getElem?_eq_getElem lk) ?_
    rw [wd_pl]
    have md : q1[k] ∈ q1 := List.getElem_mem lk
    have d3 := c3 _ md
    generalize q1[k] = d at *
    refine ⟨_, o2.lst h3 hDb, ?_, ds ++ [d], ?_, ?_, ?_, ?_, ?_, ?_⟩
    · rw [List.length_map, h1]
      exact Nat.lt_of_lt_of_le (show _ < 61 by omega) (by decide)
    · simp [h1]
    · intro e me
      rcases List.mem_append.mp me with me | me
      · exact hd3 e me
      · rw [List.mem_singleton.mp me]
        exact d3
    · rw [List.take_succ_eq_append_getElem lt, (List.getElem?_eq_some_iff.mp hq1).2]
      unfold fitsB at *
      rw [List.zip_append (by rw [h1, List.length_take]; omega), List.all_append, hf]
      simpa using md
    · rw [upd_same]
      simp
    · exact Bx.upd (b2.mono (by omega)) hDb
    · exact Off.new (o1.trans o2) hD
  · rintro H1 ⟨ds, h1, hd3, hf, h3, h4, o1⟩
    rw [lenP] at h1 hf h4
    rw [List.take_length] at hf
    refine ⟨_, D, ds.map pl, rfl, rfl, .inl (.inl (.inl ?_)), ?_, ?_⟩
    · rw [h3, List.map_map]
      rfl
    · have : ∀ l : List Nat, ((l.map pl).map (·.length)).sum = l.length := by
        intro l
        induction l with
        | nil => rfl
        | cons a l ih => simp only [List.map_cons, List.sum_cons, ih, List.length_cons]; show 1 + _ = _; omega
      rw [this, List.length_map, h1]
      show qs.length + qs.length * 0 ≤ _
      omega
    · rw [join_pl]
      exact q ds H1 o1 (h4.mono (by omega)) h1 hd3 hf
theorem slim_int {i : Int} (h : i.natAbs < 10 ^ 32) : Slim 40 1 (.int i) := by
  refine ⟨?_, by simp [PyData.depth], ?_, by simp [fine]⟩
  · rw [PyData.showable]
    have : i.natAbs.log2 < 128 := by
      by_cases z : i.natAbs = 0
      · rw [z]; decide
      · exact (Nat.log2_lt z).mpr (Nat.lt_of_lt_of_le h (by decide))
    refine decide_eq_true (by omega)
  · rw [PyData.shown_int]
    have e := int_text_length_le10 (k := 32) (by decide) h
    show (Str.ofString (toString i)).length ≤ 40
    rw [PySem.ofString_length]
    omega
theorem repr_of {v : V} {d : PyData} {B D : Nat} {R : VK} (h : Dq K H v d) (s : Slim B D d) (hB : B ≤ 50000) (hD : D ≤ 60) (q : R (.str d.shown) H) : uReprQ K [v] H R :=
  ⟨v, d, rfl, h, s.1, Nat.le_trans s.2.1 hD, Nat.le_trans s.2.2.1 (Nat.le_trans hB (by decide)), q⟩
/-- what is no yard -/
def noYd (d1 k1 : Addr) : List V := [.non, .int 5, .str "abc", .ref d1, .bl true, .ref k1]
theorem thing_at {b d1 k1 : Addr} {qs : List (List Nat)} {e : Int} (hq : PtN qs) (h60 : qs.length ≤ 60) (n1 : d1 ≠ b) (g1 : H d1 = some (.dK [])) (n2 : k1 ≠ b) (g2 : H k1 = some (.lst (pS qs))) (h0 : 0 ≤ e) (h6 : e < 6) :
    ∃ v d, atI (noYd d1 k1) e = some v ∧ Thing K b H v d ∧ ∀ H', Off b H H' → ∃ a, Is K H' v a ∧ a ≠ .yard := by
  obtain rfl | rfl | rfl | rfl | rfl | rfl : e = 0 ∨ e = 1 ∨ e = 2 ∨ e = 3 ∨ e = 4 ∨ e = 5 := by omega
  · exact ⟨_, .none, rfl, ⟨fun _ _ => .qnon, slimB_ok (by decide +kernel)⟩, fun _ _ => ⟨_, is_non, by decide⟩⟩
  · exact ⟨_, .int 5, rfl, ⟨fun _ _ => .qint 5, slimB_ok (by decide +kernel)⟩, fun _ _ => ⟨_, is_int 5, by decide⟩⟩
  · exact ⟨_, .str "abc", rfl, ⟨fun _ _ => .qstr _, slimB_ok (by decide +kernel)⟩, fun _ _ => ⟨_, is_str _, by decide⟩⟩
  · exact ⟨_, .dict [], rfl, ⟨fun H' o => .qdct (o _ _ n1 g1) rfl .qnil, slimB_ok (by decide +kernel)⟩, fun H' o => ⟨_, is_dct (o _ _ n1 g1), by decide⟩⟩
  · exact ⟨_, .bool true, rfl, ⟨fun _ _ => .qbl true, slimB_ok (by decide +kernel)⟩, fun _ _ => ⟨_, is_bl true, by decide⟩⟩
  · exact ⟨_, .list (dS qs), rfl, ⟨fun H' o => .qlst (.inl (.inl (o _ _ n2 g2))) dq_ds, (slim_list (n := 60) (slim_ds hq) (by unfold dS; rw [List.length_map]; exact h60)).mono (by decide) (by decide)⟩, fun H' o => ⟨_, is_lst (o _ _ n2 g2), by decide⟩⟩
/-- what is no natural number -/
def noNat (z : Addr) : List V := [.int (-1), .bl true, .str "1", .ref z]
theorem nat_at {z : Addr} {i : Nat} {x : V} (hx : (noNat z)[i]? = some x) : isNt x = false ∧ ∀ H' : Hp, H' z = some (.lst [.int 0]) → (∃ a, Is K H' x a) ∧ ∃ d, Dq K H' x d ∧ Slim 700 3 d := by
  match i, hx with
  | 0, hx => cases hx; exact ⟨rfl, fun _ _ => ⟨⟨_, is_int _⟩, .int (-1), .qint _, slimB_ok (by decide +kernel)⟩⟩
  | 1, hx => cases hx; exact ⟨rfl, fun _ _ => ⟨⟨_, is_bl _⟩, .bool true, .qbl _, slimB_ok (by decide +kernel)⟩⟩
  | 2, hx => cases hx; exact ⟨rfl, fun _ _ => ⟨⟨_, is_str _⟩, .str "1", .qstr _, slimB_ok (by decide +kernel)⟩⟩
  | 3, hx => cases hx; exact ⟨rfl, fun H' g => ⟨⟨_, is_lst g⟩, .list [.int 0], .qlst (.inl (.inl g)) (.qcons (.qint 0) .qnil), slimB_ok (by decide +kernel)⟩⟩
include F C in
theorem read_law (h : sp_law0 K vs H Q E) : t_law K E { nx := fun _ H' => Q .non H', rt := Q } (start ["_law_script", "_law_k", "_law_box_here", "_law_size_here", "_law_yard", "_law_pattern_here", "_law_kept", "_law_turn", "_law_word_here", "_law_places", "_law_near", "_law_due", "_law_thing", "_law_way", "_law_number", "e"] vs) H := by
  match vs, h with
  | [_], ⟨a, ns, rfl, hs, q⟩ =>
    unfold t_law
    walk_at "s"
    obtain ⟨N, hN6, hN⟩ := most_of (ns.map V.int).length 5 (by decide)
    refine for_rng1 (n := N) (fun R r => by
      walk_at "1"
      refine uLen_seq (.inl hs) ⟨_, _, rfl, ⟨_, _, rfl, ?_⟩⟩
      show R [.int _] H
      rw [hN]
      exact r) (by omega) (fun i σ H' => Same H H' ∧ ∃ x1 x2 x3 x4 x5 x6 x7 x8 x9 x10 x11 x12 x13 x14 x15, σ = [some (.ref a), x1, x2, x3, x4, x5, x6, x7, x8, x9, x10, x11, x12, x13, x14, x15]) ⟨Same.refl H, _, _, _, _, _, _, _, _, _, _, _, _, _, _, _, rfl⟩ ?_ ?_
    · rintro i σ H0 hi ⟨s0, x1, x2, x3, x4, x5, x6, x7, x8, x9, x10, x11, x12, x13, x14, x15, rfl⟩
      simp only [gName, List.set_cons_zero, List.set_cons_succ]
      walk_at "s"
      walk_at "1"
      refine ⟨a, ns, i, rfl, rfl, Same.seq s0 hs, by omega, by omega, fun c H1 s1 => ?_⟩
      refine ⟨c, rfl, fun b H2 hb0 s2 hb => ?_⟩
      have s02 := s0.trans (s1.trans s2)
      have nb := (s0.trans s1).free hb0
      have sy : Sy H2 b 0 [] H2 := Sy.begin hb
      walk_at "s"
      walk_at "1"
      refine ⟨by show 3 ≤ sizeLine; decide, fun p1 np1 => ?_⟩
      have sy := sy.new (o := .lst [.int 3, .int 8, .int 60]) np1
      refine (show sp__law_take K [.ref b, .int 3] (upd H2 p1 (.lst [.int 3, .int 8, .int 60])) _ _ from ?_)
      generalize upd H2 p1 (.lst [.int 3, .int 8, .int 60]) = H3 at *
      refine take_of sy.bx (by omega) (by omega) (by omega) fun e H4 e0 e3 o4 b4 => ?_
      have sy := sy.take o4 b4
      obtain ⟨k, hat, k1, k60⟩ := size_at e0 e3
      refine uIx_lst (sy.at_ 0 rfl) hat ?_
      refine ⟨b, _, k, rfl, rfl, k1, by omega, sy.bx, by omega, fun r H5 r1 rk o5 b5 => ?_⟩
      have sy := sy.take o5 b5
      obtain ⟨n, rfl⟩ : ∃ n : Nat, r = (n : Int) := ⟨r.toNat, by omega⟩
      walk_at "s"
      simp only [tPar]
      walk_at "1"
      simp only [tMake]
      walk_at "1"
      refine ⟨b, _, n, rfl, rfl, by omega, by omega, sy.bx, by omega, fun rows v H6 lr ok hv o6 b6 _ _ => ?_⟩
      have sy := sy.take o6 b6
      refine make_yard hv ok fun y H7 s7 ny hy => ?_
      have sy := sy.same s7
      walk_at "1"
      refine ⟨b, _, n, rfl, rfl, by omega, sy.bx, by omega, fun qs l H8 lq hq gl nl fl o8 b8 => ?_⟩
      have hy8 : Yd K H8 y rows := by
        obtain ⟨l0, g0⟩ := sy.bx.at_
        exact hy.offL o8 g0
      have o08 : Off b H H8 := Off.trans (Same.off s02) (sy.off.trans o8)
      have sy : Sy H8 b 2063 [(l, .lst (pS qs))] H8 := ⟨b8.mono (by omega), fun p mp => by
        rw [List.mem_singleton.mp mp]
        exact ⟨nl, gl⟩, Off.refl⟩
      clear s7 o8 b8 o6 b6 o5 b5 o4 b4
      have n60 : n ≤ 60 := by omega
      refine ⟨_, _, rfl, ?_⟩
      walk_at "s"
      walk_at "1"
      refine ⟨_, .inl (.inl (.inl gl)), fun k1 nk1 => ?_⟩
      have sy := sy.new (o := .lst (pS qs)) nk1
      have hy9 := hy8.same (same_new (o := .lst (pS qs)) nk1)
      have o09 := o08.trans sy.off
      generalize upd H8 k1 (.lst (pS qs)) = H9 at *
      have hb9 := sy.bx.at_
      obtain ⟨l0, g0⟩ := hb9
      have hyO : ∀ {H' : Hp}, Off b H9 H' → Yd K H' y rows := fun o => hy9.offL o g0
      have sy : Sy H9 b 2063 [(k1, .lst (pS qs)), (l, .lst (pS qs))] H9 := ⟨sy.bx, sy.hd, Off.refl⟩
      walk_at "s"
      refine for_rng1 (n := 3) (fun R r => r) (by decide) (fun i' σ H' => Sy H9 b (2063 + 200 * (i' : Nat)) [(k1, .lst (pS qs)), (l, .lst (pS qs))] H' ∧ ∃ x7 x8 x9 x10 x11 x12 x13 x14 x15, σ = [some (.ref a), some (.int (i : Nat)), some (.ref b), some (.int n), some (.ref y), some (.ref l), some (.ref k1), x7, x8, x9, x10, x11, x12, x13, x14, x15]) ⟨sy.le (by omega), _, _, _, _, _, _, _, _, _, rfl⟩ ?_ ?_
      · rintro i' σ H' hi' ⟨sy, y7, y8, y9, y10, y11, y12, y13, y14, y15, rfl⟩
        simp only [gName, List.set_cons_zero, List.set_cons_succ]
        walk_at "s"
        walk_at "1"
        refine ⟨b, _, n, rfl, rfl, n60, sy.bx, by omega, fun ds H10 ld d3 o10 b10 => ?_⟩
        have sy := sy.take o10 b10
        walk_at "s"
        walk_at "1"
        refine yardOr_of F (hyO sy.off) (.inr ⟨qs, ⟨l, rfl, .inl (.inl (.inl (sy.at_ 1 rfl))), lq.trans lr.symm, hq⟩, .inr ⟨ds, ⟨rfl, ld.trans lr.symm, d3⟩, fun H11 s11 => ?_⟩⟩)
        have sy := sy.same s11
        refine repr_bl ?_
        refine ⟨l, qs, ds, rfl, rfl, .inl (.inl (sy.at_ 1 rfl)), hq, d3, by omega, by omega, fun H12 s12 => ?_⟩
        have sy := sy.same s12
        refine repr_bl ?_
        rw [uNe_str, decide_eq_true rfl]
        refine ⟨_, rfl, ?_⟩
        rw [if_neg (by decide)]
        walk_at "s"
        simp only [tAsg]
        refine near_ (b := b) (l := l) (qs := qs) rfl rfl (by show 9 < 16; decide) sy.bx (by omega) (sy.at_ 1 rfl) (sy.nb 1 rfl) hq (by omega) fun ds2 H13 o13 b13 ld2 d32 hf => ?_
        have sy := sy.take o13 b13
        simp only [gName, List.set_cons_zero, List.set_cons_succ]
        walk_at "s"
        walk_at "1"
        refine ⟨_, .inl ⟨.inl (.inl (sy.at_ 1 rfl)), fun t nt => ?_⟩⟩
        have s14 : Same H13 (upd H13 t (.tup (pS qs))) := same_new nt
        have gt : upd H13 t (.tup (pS qs)) t = some (.tup (pS qs)) := upd_same
        generalize upd H13 t (.tup (pS qs)) = H14 at *
        have sy := sy.same s14
        refine yardOr_of F (hyO sy.off) (.inr ⟨qs, ⟨t, rfl, .inr (.inl (.inl gt)), lq.trans lr.symm, hq⟩, .inr ⟨ds2, ⟨rfl, ld2.trans (lq.trans lr.symm), d32⟩, fun H15 s15 => ?_⟩⟩)
        have sy := sy.same s15
        rw [hf]
        refine ⟨_, rfl, ?_⟩
        rw [if_neg (by decide)]
        refine ⟨b, _, y, rows, l, qs, ds, rfl, rfl, hyO sy.off, rfl, sy.at_ 1 rfl, sy.nb 1 rfl, hq, lq.trans lr.symm, ⟨rfl, ld.trans lr.symm, d3⟩, sy.bx, by omega, fun H16 o16 b16 => ?_⟩
        have sy := sy.take o16 b16
        refine ⟨true, rfl, ?_⟩
        rw [if_neg (by decide)]
        refine ⟨y, rows, l, qs, ds, rfl, hyO sy.off, rfl, sy.at_ 1 rfl, hq, lq.trans lr.symm, ⟨rfl, ld.trans lr.symm, d3⟩, fun H17 s17 => ?_⟩
        have sy := sy.same s17
        refine ⟨true, rfl, ?_⟩
        rw [if_neg (by decide)]
        exact ⟨sy.le (by omega), _, _, _, _, _, _, _, _, _, rfl⟩
      · rintro σ H10 ⟨sy, y7, y8, y9, y10, y11, y12, y13, y14, y15, rfl⟩
        walk_at "s"
        refine tFor_seqA (.inl (.inl (.inl (sy.at_ 1 rfl)))) (tVar_eq rfl) fun J G Pl hG => ?_
        refine for_plain Pl (fun R r => r) (fun i' τ H' => Same H10 H' ∧ ∃ x9, τ = [some (.ref a), some (.int (i : Nat)), some (.ref b), some (.int n), some (.ref y), some (.ref l), some (.ref k1), y7, y8, x9, y10, some (.int (prodL (qs.take i'))), y12, y13, y14, y15]) ⟨Same.refl _, _, rfl⟩ (fun i τ H' z => hG _ z.1) ?_ ?_
        · rintro i' x τ H11 hx ⟨s11, x9, rfl⟩
          unfold pS at hx
          rw [List.getElem?_map] at hx
          obtain ⟨q1, hq1, rfl⟩ := Option.map_eq_some_iff.mp hx
          have mq := chN_ok (hq q1 (List.mem_of_getElem? hq1))
          simp only [gName, List.set_cons_zero, List.set_cons_succ]
          walk_at "1"
          refine ⟨by rw [wd_length]; exact Nat.le_trans mq.2.2 (by decide), ?_⟩
          walk_at "1"
          rw [wd_length]
          refine ⟨.inr (by omega), s11, _, by rw [prodL_snoc hq1]⟩
        · rintro τ H11 ⟨s11, x9, rfl⟩
          have lenP : (pS qs).length = qs.length := List.length_map _
          rw [lenP, List.take_length]
          have sy := sy.same s11
          walk_at "s"
          walk_at "1"
          refine yardOr_of F (hyO sy.off) (.inr ⟨qs, ⟨l, rfl, .inl (.inl (.inl (sy.at_ 1 rfl))), lq.trans lr.symm, hq⟩, fun H12 s12 => ?_⟩)
          have sy := sy.same s12
          obtain ⟨p1, p3⟩ := prod_le hq
          have sp : Slim 40 1 (.int (prodL qs)) := slim_int (by
            have e1 : (3 : Int) ^ qs.length ≤ 3 ^ 60 := by
              have : (3 : Nat) ^ qs.length ≤ 3 ^ 60 := Nat.pow_le_pow_right (by decide) (by omega)
              exact_mod_cast this
            have e2 : (3 : Int) ^ 60 < 10 ^ 32 := by decide
            have e3 : ((10 : Nat) ^ 32 : Int) = (10 : Int) ^ 32 := by decide
            omega)
          refine repr_of (.qint _) sp (by decide) (by decide) (repr_of (.qint _) sp (by decide) (by decide) ?_)
          rw [uNe_str, decide_eq_true rfl]
          refine ⟨_, rfl, ?_⟩
          rw [if_neg (by decide)]
          have okS : ∀ x ∈ qs.map wd, PyData.strOk x = true := fun x m => by
            obtain ⟨q1, m1, rfl⟩ := List.mem_map.mp m
            exact ch_ok (hq q1 m1)
          refine ne_strs (.inl (.inl ((sy.at_ 1 rfl).trans (by rw [pS_str])))) (.inl (.inl ((sy.at_ 0 rfl).trans (by rw [pS_str])))) okS okS ?_
          rw [decide_eq_true rfl]
          refine ⟨_, rfl, ?_⟩
          rw [if_neg (by decide)]
          walk_at "s"
          walk_at "1"
          intro d1 nd
          have sy := sy.new (o := .dK []) nd
          generalize upd H12 d1 (.dK []) = H13 at *
          refine ⟨by show 6 ≤ sizeLine; decide, fun p2 np2 => ?_⟩
          have sy := sy.new (o := .lst (noYd d1 k1)) np2
          refine (show sp__law_take K [.ref b, .int 6] (upd H13 p2 (.lst (noYd d1 k1))) _ _ from ?_)
          generalize upd H13 p2 (.lst (noYd d1 k1)) = H14 at *
          refine take_of sy.bx (by omega) (by omega) (by omega) fun e H15 e0 e6 o15 b15 => ?_
          have sy := sy.take o15 b15
          obtain ⟨tv, td, hat, th, ty⟩ := thing_at (K := K) (b := b) hq (by omega) (sy.nb 1 rfl) (sy.at_ 1 rfl) (sy.nb 2 rfl) (sy.at_ 2 rfl) e0 e6
          refine uIx_lst (sy.at_ 0 rfl) hat ?_
          have o15 := o09.trans sy.off
          clear hat
          walk_at "s"
          refine for_rng1 (n := 12) (fun R r => r) (by decide) (fun i' σ H' => Same H15 H' ∧ ∃ x13, σ = [some (.ref a), some (.int (i : Nat)), some (.ref b), some (.int n), some (.ref y), some (.ref l), some (.ref k1), y7, y8, x9, y10, some (.int (prodL qs)), some tv, x13, y14, y15]) ⟨Same.refl _, _, rfl⟩ ?_ ?_
          · rintro k σ H16 hk ⟨s16, x13, rfl⟩
            simp only [gName, List.set_cons_zero, List.set_cons_succ]
            exact test_cr (f := "InvalidYard") (i := k) (y := tv) (x := .ref k1) (z := .non) (v := tv) (ev_var rfl) (ev_var rfl) (ev_var rfl) ev_c (ev_var rfl) (by decide) (by decide +kernel) (by omega) (out_yard (ty _ (Same.off s16)) (by omega)) b (th.off (Same.off s16)) fun H17 s17 => ⟨s16.trans s17, _, rfl⟩
          rintro σ H16 ⟨s16, x13, rfl⟩
          refine tFor_seqL ?_
          walk_at "1"
          refine ⟨by show 1 ≤ sizeLine; decide, fun z nz => ?_⟩
          have s17 : Same H16 (upd H16 z (.lst [.int 0])) := same_new nz
          have gz : upd H16 z (.lst [.int 0]) z = some (.lst [.int 0]) := upd_same
          generalize upd H16 z (.lst [.int 0]) = H17 at *
          refine ⟨by show 4 ≤ sizeLine; decide, fun p3 np3 => ?_⟩
          have s18 : Same H17 (upd H17 p3 (.lst (noNat z))) := same_new np3
          have g3 : upd H17 p3 (.lst (noNat z)) p3 = some (.lst (noNat z)) := upd_same
          refine (show (∃ xs, SqL K (upd H17 p3 (.lst (noNat z))) p3 xs) ∧ tFor _ _ _ _ _ (upd H17 p3 (.lst (noNat z))) from ?_)
          generalize upd H17 p3 (.lst (noNat z)) = H18 at *
          have gz := s18 _ _ gz
          refine ⟨⟨_, .inl (.inl g3)⟩, ?_⟩
          have s08 : Same H15 H18 := s16.trans (s17.trans s18)
          refine laps_pl (plain_L (K := K) (a := p3) (xs := noNat z)) (fun i' σ H' => Same H18 H' ∧ ∃ x14 x15, σ = [some (.ref a), some (.int (i : Nat)), some (.ref b), some (.int n), some (.ref y), some (.ref l), some (.ref k1), y7, y8, x9, y10, some (.int (prodL qs)), some tv, x13, x14, x15]) ⟨Same.refl _, _, _, rfl⟩ (fun i σ H' z => .inl (.inl (z.1 _ _ g3))) ?_ ?_
          · rintro k w σ H19 hk ⟨s19, x14, x15, rfl⟩
            obtain ⟨cw, kw⟩ := nat_at (K := K) hk
            have gz19 := s19 _ _ gz
            simp only [gName, List.set_cons_zero, List.set_cons_succ]
            simp only [tTry, tFnS, tCallS, wCl, undone, named, unnamed, WE, tMakeS]
            walk_at "s"
            walk_at "1"
            simp only [tCallS, tMakeS, WE]
            simp only [tCons, tNil, tC]
            refine list2 (K := K) fun v H20 s20 hv => ?_
            refine make_yardK hv rows2_ok.1 rows2_ok.2 fun x H21 s21 nx hyk nr => ?_
            refine ⟨w, rfl, ?_⟩
            refine .inr ⟨x, rows2, _, _, rfl, hyk, arr_ab, arr_ba, fun H22 md => ?_, fun _ H22 md hy22 d H23 s23 nd => ?_, fun k' ek k0 => ?_⟩
            · exact (kw H22 (md.fl _ _ (fun _ _ _ z => nomatch z) (s21 _ _ (s20 _ _ gz19)))).1
            · have hf : ("InvalidCount" : Str) ∈ excN := by decide
              obtain ⟨sB, _⟩ := md.bs H20 s21 nx (fun a ya => (nr a ya).elim)
              have s24 : Same H23 (upd H23 d (.xd [("value", w)])) := same_new nd
              have s20B : Same H19 (upd H23 d (.xd [("value", w)])) := s20.trans (sB.trans (s23.trans s24))
              have gd : upd H23 d (.xd [("value", w)]) d = some (.xd [("value", w)]) := upd_same
              generalize upd H23 d (.xd [("value", w)]) = H24 at *
              obtain ⟨wd', dq, sw⟩ := (kw H24 (s20B _ _ gz19)).2
              refine ⟨true, by rw [is_exc C hf hf, decide_eq_true rfl], fun _ a2 ha => ?_, fun z => nomatch z⟩
              refine ⟨_, rfl, rfl, _, d, _, w, rfl, rfl, C.f _ hf, C.v _ hf, gd, rfl, ?_⟩
              refine repr_of dq sw (by decide) (by decide) ⟨w, rfl, repr_of dq sw (by decide) (by decide) ?_⟩
              rw [uNe_str, decide_eq_true rfl]
              refine ⟨_, rfl, ?_⟩
              rw [if_neg (by decide)]
              exact ⟨s19.trans s20B, _, _, rfl⟩
            · subst ek
              exact absurd cw (by simp [isNt, k0])
          · rintro σ H19 ⟨s19, x14, x15, rfl⟩
            exact ⟨(Off.trans o15 (Same.off (s08.trans s19))).same nb, _, _, _, _, _, _, _, _, _, _, _, _, _, _, _, rfl⟩
    · rintro σ H0 ⟨s0, x1, x2, x3, x4, x5, x6, x7, x8, x9, x10, x11, x12, x13, x14, x15, rfl⟩
      walk_at "1"
      exact q H0
end
end U
namespace U
open PySem PySem.Spec PyProof.Rows L2

theorem krB_ok {K : PySem.W.Frag} (h : krB K = true) : KR K := by
  unfold krB at h
  simp only [decide_eq_true_eq, Bool.and_eq_true] at h
  obtain ⟨h1, h2, h3, h4, h5, h6⟩ := h
  exact ⟨He.cls_ok h1, He.noat_ok h2, He.noat_ok h3, He.noat_ok h4, He.noat_ok h5, h6⟩
theorem sp5_len {f : V → V → V → V → V → Hp → VK → XK → Prop} {a b c d e : Str} : ∀ vs H Q E, sp_both_lines.sp5' f vs H Q E → vs.length = ([a, b, c, d, e] : List Str).length := fun vs H Q E h => match vs, h with
  | [_, _, _, _, _], _ => rfl
end U
namespace U
open PySem PySem.Spec PyProof.Rows L2
abbrev n__law_box : List Str := ["_law_cell_here"]
theorem sc__law_box : FnScope n__law_box ["_law_cell_here"] (defScope s__law_box) := ⟨rfl, rfl, rfl, by decide +kernel, rfl, by decide +kernel, by decide +kernel⟩
abbrev n_Yard_len : List Str := ["self"]
theorem sc_Yard_len : FnScope n_Yard_len ["self"] (defScope s_Yard_len) := ⟨rfl, rfl, rfl, by decide +kernel, rfl, by decide +kernel, by decide +kernel⟩
abbrev n_check_yard : List Str := ["yard"]
theorem sc_check_yard : FnScope n_check_yard ["yard"] (defScope s_check_yard) := ⟨rfl, rfl, rfl, by decide +kernel, rfl, by decide +kernel, by decide +kernel⟩
abbrev n_is_pattern : List Str := ["yard", "value", "places"]
theorem sc_is_pattern : FnScope n_is_pattern ["yard", "value"] (defScope s_is_pattern) := ⟨rfl, rfl, rfl, by decide +kernel, rfl, by decide +kernel, by decide +kernel⟩
abbrev n_check_pattern : List Str := ["yard", "pattern"]
theorem sc_check_pattern : FnScope n_check_pattern ["yard", "pattern"] (defScope s_check_pattern) := ⟨rfl, rfl, rfl, by decide +kernel, rfl, by decide +kernel, by decide +kernel⟩
abbrev n_cost_between : List Str := ["yard", "starts", "goals"]
theorem sc_cost_between : FnScope n_cost_between ["yard", "starts", "goals"] (defScope s_cost_between) := ⟨rfl, rfl, rfl, by decide +kernel, rfl, by decide +kernel, by decide +kernel⟩
abbrev n_is_arrangement : List Str := ["yard", "value"]
theorem sc_is_arrangement : FnScope n_is_arrangement ["yard", "value"] (defScope s_is_arrangement) := ⟨rfl, rfl, rfl, by decide +kernel, rfl, by decide +kernel, by decide +kernel⟩
abbrev n_check_arrangement : List Str := ["yard", "arrangement"]
theorem sc_check_arrangement : FnScope n_check_arrangement ["yard", "arrangement"] (defScope s_check_arrangement) := ⟨rfl, rfl, rfl, by decide +kernel, rfl, by decide +kernel, by decide +kernel⟩
abbrev n_cost_from : List Str := ["yard", "pattern", "goal"]
theorem sc_cost_from : FnScope n_cost_from ["yard", "pattern", "goal"] (defScope s_cost_from) := ⟨rfl, rfl, rfl, by decide +kernel, rfl, by decide +kernel, by decide +kernel⟩
abbrev n_cost_to : List Str := ["yard", "start", "pattern"]
theorem sc_cost_to : FnScope n_cost_to ["yard", "start", "pattern"] (defScope s_cost_to) := ⟨rfl, rfl, rfl, by decide +kernel, rfl, by decide +kernel, by decide +kernel⟩
abbrev n_fits : List Str := ["yard", "pattern", "arrangement", "place", "places"]
theorem sc_fits : FnScope n_fits ["yard", "pattern", "arrangement"] (defScope s_fits) := ⟨rfl, rfl, rfl, by decide +kernel, rfl, by decide +kernel, by decide +kernel⟩
abbrev n__from_place : List Str := ["place", "prices", "towers", "below", "ab", "ac", "ba", "bc", "ca", "cb", "price_ab", "price_ac", "price_ba", "price_bc", "price_ca", "price_cb", "to_a", "to_b", "to_c"]
theorem sc__from_place : FnScope n__from_place ["place", "prices", "towers", "below"] (defScope s__from_place) := ⟨rfl, rfl, rfl, by decide +kernel, rfl, by decide +kernel, by decide +kernel⟩
abbrev n_to_towers_above : List Str := ["places", "prices", "towers", "below", "ones", "place", "costs"]
theorem sc_to_towers_above : FnScope n_to_towers_above ["places", "prices", "towers", "below"] (defScope s_to_towers_above) := ⟨rfl, rfl, rfl, by decide +kernel, rfl, by decide +kernel, by decide +kernel⟩
abbrev n_Reckoning_to_towers : List Str := ["self", "starts", "levels", "places", "prices", "towers"]
theorem sc_Reckoning_to_towers : FnScope n_Reckoning_to_towers ["self", "starts"] (defScope s_Reckoning_to_towers) := ⟨rfl, rfl, rfl, by decide +kernel, rfl, by decide +kernel, by decide +kernel⟩
abbrev n_Reckoning_told : List Str := ["self", "number"]
theorem sc_Reckoning_told : FnScope n_Reckoning_told ["self", "number"] (defScope s_Reckoning_told) := ⟨rfl, rfl, rfl, by decide +kernel, rfl, by decide +kernel, by decide +kernel⟩
abbrev n_towers_above : List Str := ["prices", "below", "ab", "ac", "ba", "bc", "ca", "cb", "price_ab", "price_ac", "price_ba", "price_bc", "price_ca", "price_cb"]
theorem sc_towers_above : FnScope n_towers_above ["prices", "below"] (defScope s_towers_above) := ⟨rfl, rfl, rfl, by decide +kernel, rfl, by decide +kernel, by decide +kernel⟩
abbrev n_without_bars : List Str := ["rows", "bound", "row", "price"]
theorem sc_without_bars : FnScope n_without_bars ["rows", "bound"] (defScope s_without_bars) := ⟨rfl, rfl, rfl, by decide +kernel, rfl, by decide +kernel, by decide +kernel⟩
abbrev n_Reckoning_init : List Str := ["self", "bound", "prices", "towers"]
theorem sc_Reckoning_init : FnScope n_Reckoning_init ["self", "bound", "prices", "towers"] (defScope s_Reckoning_init) := ⟨rfl, rfl, rfl, by decide +kernel, rfl, by decide +kernel, by decide +kernel⟩
abbrev n_reckoning_of : List Str := ["rows", "greatest", "bound", "prices", "towers", "six", "row", "price"]
theorem sc_reckoning_of : FnScope n_reckoning_of ["rows"] (defScope s_reckoning_of) := ⟨rfl, rfl, rfl, by decide +kernel, rfl, by decide +kernel, by decide +kernel⟩
abbrev n_Yard_reckoning : List Str := ["self"]
theorem sc_Yard_reckoning : FnScope n_Yard_reckoning ["self"] (defScope s_Yard_reckoning) := ⟨rfl, rfl, rfl, by decide +kernel, rfl, by decide +kernel, by decide +kernel⟩
abbrev n_both_lines : List Str := ["way", "prices", "towers", "to_towers", "from_towers", "straight", "first", "second", "back", "here", "there", "over"]
theorem sc_both_lines : FnScope n_both_lines ["way", "prices", "towers", "to_towers", "from_towers"] (defScope s_both_lines) := ⟨rfl, rfl, rfl, by decide +kernel, rfl, by decide +kernel, by decide +kernel⟩
abbrev n_is_way : List Str := ["value"]
theorem sc_is_way : FnScope n_is_way ["value"] (defScope s_is_way) := ⟨rfl, rfl, rfl, by decide +kernel, rfl, by decide +kernel, by decide +kernel⟩
abbrev n_check_way : List Str := ["way"]
theorem sc_check_way : FnScope n_check_way ["way"] (defScope s_check_way) := ⟨rfl, rfl, rfl, by decide +kernel, rfl, by decide +kernel, by decide +kernel⟩
abbrev n_third : List Str := ["way"]
theorem sc_third : FnScope n_third ["way"] (defScope s_third) := ⟨rfl, rfl, rfl, by decide +kernel, rfl, by decide +kernel, by decide +kernel⟩
abbrev n__bring_home : List Str := ["reckoning", "costs", "here", "goal", "crate", "to_towers", "ahead", "there", "rest", "straight", "turning", "over"]
theorem sc__bring_home : FnScope n__bring_home ["reckoning", "costs", "here", "goal", "crate", "to_towers", "ahead"] (defScope s__bring_home) := ⟨rfl, rfl, rfl, by decide +kernel, rfl, by decide +kernel, by decide +kernel⟩
abbrev n_check_both : List Str := ["yard", "start", "goal"]
theorem sc_check_both : FnScope n_check_both ["yard", "start", "goal"] (defScope s_check_both) := ⟨rfl, rfl, rfl, by decide +kernel, rfl, by decide +kernel, by decide +kernel⟩
abbrev n_first_apart : List Str := ["starts", "goals", "crate", "places", "place"]
theorem sc_first_apart : FnScope n_first_apart ["starts", "goals"] (defScope s_first_apart) := ⟨rfl, rfl, rfl, by decide +kernel, rfl, by decide +kernel, by decide +kernel⟩
abbrev n_from_each_tower : List Str := ["towers", "ab", "ac", "ba", "bc", "ca", "cb"]
theorem sc_from_each_tower : FnScope n_from_each_tower ["towers"] (defScope s_from_each_tower) := ⟨rfl, rfl, rfl, by decide +kernel, rfl, by decide +kernel, by decide +kernel⟩
abbrev n_home_costs : List Str := ["yard", "start", "goal", "reckoning", "apart", "to_towers", "place", "costs", "found", "crate", "ahead", "from_tower", "cost"]
theorem sc_home_costs : FnScope n_home_costs ["yard", "start", "goal"] (defScope s_home_costs) := ⟨rfl, rfl, rfl, by decide +kernel, rfl, by decide +kernel, by decide +kernel⟩
abbrev n_is_integer : List Str := ["value"]
theorem sc_is_integer : FnScope n_is_integer ["value"] (defScope s_is_integer) := ⟨rfl, rfl, rfl, by decide +kernel, rfl, by decide +kernel, by decide +kernel⟩
abbrev n_home_within : List Str := ["yard", "start", "goal", "cost", "costs", "least"]
theorem sc_home_within : FnScope n_home_within ["yard", "start", "goal", "cost"] (defScope s_home_within) := ⟨rfl, rfl, rfl, by decide +kernel, rfl, by decide +kernel, by decide +kernel⟩
abbrev n_how_many_fit : List Str := ["yard", "pattern", "many", "places"]
theorem sc_how_many_fit : FnScope n_how_many_fit ["yard", "pattern"] (defScope s_how_many_fit) := ⟨rfl, rfl, rfl, by decide +kernel, rfl, by decide +kernel, by decide +kernel⟩
abbrev n_how_many_nearest : List Str := ["yard", "start", "pattern", "reckoning", "found"]
theorem sc_how_many_nearest : FnScope n_how_many_nearest ["yard", "start", "pattern"] (defScope s_how_many_nearest) := ⟨rfl, rfl, rfl, by decide +kernel, rfl, by decide +kernel, by decide +kernel⟩
abbrev n_nearest : List Str := ["yard", "start", "pattern"]
theorem sc_nearest : FnScope n_nearest ["yard", "start", "pattern"] (defScope s_nearest) := ⟨rfl, rfl, rfl, by decide +kernel, rfl, by decide +kernel, by decide +kernel⟩
abbrev n_nearest_start : List Str := ["yard", "pattern", "goal"]
theorem sc_nearest_start : FnScope n_nearest_start ["yard", "pattern", "goal"] (defScope s_nearest_start) := ⟨rfl, rfl, rfl, by decide +kernel, rfl, by decide +kernel, by decide +kernel⟩
abbrev n_turned : List Str := ["six", "ab", "ac", "ba", "bc", "ca", "cb"]
theorem sc_turned : FnScope n_turned ["six"] (defScope s_turned) := ⟨rfl, rfl, rfl, by decide +kernel, rfl, by decide +kernel, by decide +kernel⟩
abbrev n_Reckoning_backwards : List Str := ["self", "prices", "six"]
theorem sc_Reckoning_backwards : FnScope n_Reckoning_backwards ["self"] (defScope s_Reckoning_backwards) := ⟨rfl, rfl, rfl, by decide +kernel, rfl, by decide +kernel, by decide +kernel⟩
abbrev n_Reckoning_from_towers : List Str := ["self", "goals"]
theorem sc_Reckoning_from_towers : FnScope n_Reckoning_from_towers ["self", "goals"] (defScope s_Reckoning_from_towers) := ⟨rfl, rfl, rfl, by decide +kernel, rfl, by decide +kernel, by decide +kernel⟩
abbrev n_Reckoning_cheapest : List Str := ["self", "starts", "goals", "crate", "rest", "prices", "towers", "to_towers", "from_towers", "here", "there"]
theorem sc_Reckoning_cheapest : FnScope n_Reckoning_cheapest ["self", "starts", "goals"] (defScope s_Reckoning_cheapest) := ⟨rfl, rfl, rfl, by decide +kernel, rfl, by decide +kernel, by decide +kernel⟩
abbrev n_pair_between : List Str := ["yard", "starts", "goals", "reckoning", "apart", "both", "shared", "here", "there", "first", "last", "ahead", "behind"]
theorem sc_pair_between : FnScope n_pair_between ["yard", "starts", "goals"] (defScope s_pair_between) := ⟨rfl, rfl, rfl, by decide +kernel, rfl, by decide +kernel, by decide +kernel⟩
abbrev n__law_asked : List Str := ["_law_way", "_law_yard", "_law_one", "_law_other"]
theorem sc__law_asked : FnScope n__law_asked ["_law_way", "_law_yard", "_law_one", "_law_other"] (defScope s__law_asked) := ⟨rfl, rfl, rfl, by decide +kernel, rfl, by decide +kernel, by decide +kernel⟩
abbrev n__law_caught : List Str := ["_law_way", "_law_yard", "_law_one", "_law_other", "e"]
theorem sc__law_caught : FnScope n__law_caught ["_law_way", "_law_yard", "_law_one", "_law_other"] (defScope s__law_caught) := ⟨rfl, rfl, rfl, by decide +kernel, rfl, by decide +kernel, by decide +kernel⟩
abbrev n__law_cell : List Str := ["_law_script", "_law_k"]
theorem sc__law_cell : FnScope n__law_cell ["_law_script", "_law_k"] (defScope s__law_cell) := ⟨rfl, rfl, rfl, by decide +kernel, rfl, by decide +kernel, by decide +kernel⟩
abbrev n__law_fits : List Str := ["_law_pattern_here", "_law_word_here", "_law_crate"]
theorem sc__law_fits : FnScope n__law_fits ["_law_pattern_here", "_law_word_here"] (defScope s__law_fits) := ⟨rfl, rfl, rfl, by decide +kernel, rfl, by decide +kernel, by decide +kernel⟩
abbrev n__law_take : List Str := ["_law_box_here", "_law_amount", "_law_digit", "_law_blend"]
theorem sc__law_take : FnScope n__law_take ["_law_box_here", "_law_amount"] (defScope s__law_take) := ⟨rfl, rfl, rfl, by decide +kernel, rfl, by decide +kernel, by decide +kernel⟩
abbrev n__law_pattern : List Str := ["_law_box_here", "_law_size_here", "_law_menu", "_law_crate"]
theorem sc__law_pattern : FnScope n__law_pattern ["_law_box_here", "_law_size_here"] (defScope s__law_pattern) := ⟨rfl, rfl, rfl, by decide +kernel, rfl, by decide +kernel, by decide +kernel⟩
abbrev n__law_plain : List Str := ["_law_box_here", "_law_size_here", "_law_odds", "_law_great", "_law_flat", "_law_found", "_law_crate", "_law_line", "_law_way", "_law_price"]
theorem sc__law_plain : FnScope n__law_plain ["_law_box_here", "_law_size_here"] (defScope s__law_plain) := ⟨rfl, rfl, rfl, by decide +kernel, rfl, by decide +kernel, by decide +kernel⟩
abbrev n__law_odd : List Str := ["_law_box_here", "_law_pattern_here", "_law_at", "_law_item", "_law_bent", "_law_some"]
theorem sc__law_odd : FnScope n__law_odd ["_law_box_here", "_law_pattern_here"] (defScope s__law_odd) := ⟨rfl, rfl, rfl, by decide +kernel, rfl, by decide +kernel, by decide +kernel⟩
abbrev n_is_price : List Str := ["value"]
theorem sc_is_price : FnScope n_is_price ["value"] (defScope s_is_price) := ⟨rfl, rfl, rfl, by decide +kernel, rfl, by decide +kernel, by decide +kernel⟩
abbrev n__is_price_row : List Str := ["value", "price"]
theorem sc__is_price_row : FnScope n__is_price_row ["value"] (defScope s__is_price_row) := ⟨rfl, rfl, rfl, by decide +kernel, rfl, by decide +kernel, by decide +kernel⟩
abbrev n__are_rows : List Str := ["value", "row"]
theorem sc__are_rows : FnScope n__are_rows ["value"] (defScope s__are_rows) := ⟨rfl, rfl, rfl, by decide +kernel, rfl, by decide +kernel, by decide +kernel⟩
abbrev n_Yard_init : List Str := ["self", "rows", "row"]
theorem sc_Yard_init : FnScope n_Yard_init ["self", "rows"] (defScope s_Yard_init) := ⟨rfl, rfl, rfl, by decide +kernel, rfl, by decide +kernel, by decide +kernel⟩
abbrev n__law_right : List Str := ["_law_box_here", "_law_yard", "_law_pattern_here", "_law_word_here", "_law_odd_here", "_law_bad", "_law_way"]
theorem sc__law_right : FnScope n__law_right ["_law_box_here", "_law_yard", "_law_pattern_here", "_law_word_here"] (defScope s__law_right) := ⟨rfl, rfl, rfl, by decide +kernel, rfl, by decide +kernel, by decide +kernel⟩
abbrev n__law_size : List Str := ["_law_box_here", "_law_most", "_law_size_here"]
theorem sc__law_size : FnScope n__law_size ["_law_box_here", "_law_most"] (defScope s__law_size) := ⟨rfl, rfl, rfl, by decide +kernel, rfl, by decide +kernel, by decide +kernel⟩
abbrev n__law_very_right : List Str := ["_law_yard", "_law_pattern_here", "_law_word_here", "_law_handed", "_law_told", "_law_way"]
theorem sc__law_very_right : FnScope n__law_very_right ["_law_yard", "_law_pattern_here", "_law_word_here"] (defScope s__law_very_right) := ⟨rfl, rfl, rfl, by decide +kernel, rfl, by decide +kernel, by decide +kernel⟩
abbrev n__law_word : List Str := ["_law_box_here", "_law_size_here", "_law_crate"]
theorem sc__law_word : FnScope n__law_word ["_law_box_here", "_law_size_here"] (defScope s__law_word) := ⟨rfl, rfl, rfl, by decide +kernel, rfl, by decide +kernel, by decide +kernel⟩
abbrev n_law : List Str := ["_law_script", "_law_k", "_law_box_here", "_law_size_here", "_law_yard", "_law_pattern_here", "_law_kept", "_law_turn", "_law_word_here", "_law_places", "_law_near", "_law_due", "_law_thing", "_law_way", "_law_number", "e"]
theorem sc_law : FnScope n_law ["_law_script"] (defScope s_law) := ⟨rfl, rfl, rfl, by decide +kernel, rfl, by decide +kernel, by decide +kernel⟩
structure Ct (K : PySem.W.Frag) (w : World) (mg : Str → Option Value) : Prop where
  says : He5.SaysA fa fn K
  F : KF K
  ks : KS K
  xf : XF K "CratesError" excN
  kr : KR K
  kp : KP K
  g_CratesError : mg "CratesError" = some (.ref (He.ga K "CratesError"))
  g_InvalidArrangement : mg "InvalidArrangement" = some (.ref (He.ga K "InvalidArrangement"))
  g_InvalidCount : mg "InvalidCount" = some (.ref (He.ga K "InvalidCount"))
  g_InvalidPattern : mg "InvalidPattern" = some (.ref (He.ga K "InvalidPattern"))
  g_InvalidWay : mg "InvalidWay" = some (.ref (He.ga K "InvalidWay"))
  g_InvalidYard : mg "InvalidYard" = some (.ref (He.ga K "InvalidYard"))
  g_Nearest : mg "Nearest" = some (.ref (He.ga K "Nearest"))
  g_PLACES : mg "PLACES" = some (.ref (He.ga K "PLACES"))
  g_Reckoning : mg "Reckoning" = some (.ref (He.ga K "Reckoning"))
  g_THIRDS : mg "THIRDS" = some (.ref (He.ga K "THIRDS"))
  g_WAYS : mg "WAYS" = some (.ref (He.ga K "WAYS"))
  g_Yard : mg "Yard" = some (.ref (He.ga K "Yard"))
  g__CHOICES : mg "_CHOICES" = some (.ref (He.ga K "_CHOICES"))
  g__TURNS : mg "_TURNS" = some (.ref (He.ga K "_TURNS"))
  g__are_rows : mg "_are_rows" = some (.ref (He.ga K "_are_rows"))
  g__bring_home : mg "_bring_home" = some (.ref (He.ga K "_bring_home"))
  g__cheapest_line : mg "_cheapest_line" = some (.ref (He.ga K "_cheapest_line"))
  g__cost : mg "_cost" = some (.ref (He.ga K "_cost"))
  g__first_arrangement : mg "_first_arrangement" = some (.ref (He.ga K "_first_arrangement"))
  g__first_nearest : mg "_first_nearest" = some (.ref (He.ga K "_first_nearest"))
  g__first_shared : mg "_first_shared" = some (.ref (He.ga K "_first_shared"))
  g__from_place : mg "_from_place" = some (.ref (He.ga K "_from_place"))
  g__is_price_row : mg "_is_price_row" = some (.ref (He.ga K "_is_price_row"))
  g__law_asked : mg "_law_asked" = some (.ref (He.ga K "_law_asked"))
  g__law_box : mg "_law_box" = some (.ref (He.ga K "_law_box"))
  g__law_caught : mg "_law_caught" = some (.ref (He.ga K "_law_caught"))
  g__law_cell : mg "_law_cell" = some (.ref (He.ga K "_law_cell"))
  g__law_fits : mg "_law_fits" = some (.ref (He.ga K "_law_fits"))
  g__law_odd : mg "_law_odd" = some (.ref (He.ga K "_law_odd"))
  g__law_pattern : mg "_law_pattern" = some (.ref (He.ga K "_law_pattern"))
  g__law_plain : mg "_law_plain" = some (.ref (He.ga K "_law_plain"))
  g__law_right : mg "_law_right" = some (.ref (He.ga K "_law_right"))
  g__law_size : mg "_law_size" = some (.ref (He.ga K "_law_size"))
  g__law_take : mg "_law_take" = some (.ref (He.ga K "_law_take"))
  g__law_very_right : mg "_law_very_right" = some (.ref (He.ga K "_law_very_right"))
  g__law_word : mg "_law_word" = some (.ref (He.ga K "_law_word"))
  g_both_lines : mg "both_lines" = some (.ref (He.ga K "both_lines"))
  g_check_arrangement : mg "check_arrangement" = some (.ref (He.ga K "check_arrangement"))
  g_check_both : mg "check_both" = some (.ref (He.ga K "check_both"))
  g_check_pattern : mg "check_pattern" = some (.ref (He.ga K "check_pattern"))
  g_check_way : mg "check_way" = some (.ref (He.ga K "check_way"))
  g_check_yard : mg "check_yard" = some (.ref (He.ga K "check_yard"))
  g_cost_between : mg "cost_between" = some (.ref (He.ga K "cost_between"))
  g_cost_from : mg "cost_from" = some (.ref (He.ga K "cost_from"))
  g_cost_to : mg "cost_to" = some (.ref (He.ga K "cost_to"))
  g_first_apart : mg "first_apart" = some (.ref (He.ga K "first_apart"))
  g_fits : mg "fits" = some (.ref (He.ga K "fits"))
  g_from_each_tower : mg "from_each_tower" = some (.ref (He.ga K "from_each_tower"))
  g_home_costs : mg "home_costs" = some (.ref (He.ga K "home_costs"))
  g_home_within : mg "home_within" = some (.ref (He.ga K "home_within"))
  g_how_many : mg "how_many" = some (.ref (He.ga K "how_many"))
  g_how_many_fit : mg "how_many_fit" = some (.ref (He.ga K "how_many_fit"))
  g_how_many_nearest : mg "how_many_nearest" = some (.ref (He.ga K "how_many_nearest"))
  g_is_arrangement : mg "is_arrangement" = some (.ref (He.ga K "is_arrangement"))
  g_is_integer : mg "is_integer" = some (.ref (He.ga K "is_integer"))
  g_is_pattern : mg "is_pattern" = some (.ref (He.ga K "is_pattern"))
  g_is_price : mg "is_price" = some (.ref (He.ga K "is_price"))
  g_is_way : mg "is_way" = some (.ref (He.ga K "is_way"))
  g_law : mg "law" = some (.ref (He.ga K "law"))
  g_nearest : mg "nearest" = some (.ref (He.ga K "nearest"))
  g_nearest_start : mg "nearest_start" = some (.ref (He.ga K "nearest_start"))
  g_pair_between : mg "pair_between" = some (.ref (He.ga K "pair_between"))
  g_reckoning_of : mg "reckoning_of" = some (.ref (He.ga K "reckoning_of"))
  g_third : mg "third" = some (.ref (He.ga K "third"))
  g_to_towers_above : mg "to_towers_above" = some (.ref (He.ga K "to_towers_above"))
  g_towers_above : mg "towers_above" = some (.ref (He.ga K "towers_above"))
  g_turned : mg "turned" = some (.ref (He.ga K "turned"))
  g_without_bars : mg "without_bars" = some (.ref (He.ga K "without_bars"))
  int_MOST_CRATES : ∃ t, mg "MOST_CRATES" = some (.int 60 t)
  str__PLACE_SIGNS : ∃ t, mg "_PLACE_SIGNS" = some (.str "abc" t)
  n_all : mg "all" = none
  n_any : mg "any" = none
  n_bool : mg "bool" = none
  n_enumerate : mg "enumerate" = none
  n_int : mg "int" = none
  n_isinstance : mg "isinstance" = none
  n_len : mg "len" = none
  n_list : mg "list" = none
  n_max : mg "max" = none
  n_min : mg "min" = none
  n_range : mg "range" = none
  n_repr : mg "repr" = none
  n_str : mg "str" = none
  n_sum : mg "sum" = none
  n_tuple : mg "tuple" = none
  n_zip : mg "zip" = none
  mk_Yard : Mk K (He.ga K "Yard") (He.ma K (He.ga K "Yard") "__init__")
  mk_Reckoning : Mk K (He.ga K "Reckoning") (He.ma K (He.ga K "Reckoning") "__init__")
  m_Reckoning_init : Meth K (He.ga K "Reckoning") "__init__" (He.ma K (He.ga K "Reckoning") "__init__")
  m_Reckoning_backwards : Meth K (He.ga K "Reckoning") "backwards" (He.ma K (He.ga K "Reckoning") "backwards")
  m_Reckoning_to_towers : Meth K (He.ga K "Reckoning") "to_towers" (He.ma K (He.ga K "Reckoning") "to_towers")
  m_Reckoning_from_towers : Meth K (He.ga K "Reckoning") "from_towers" (He.ma K (He.ga K "Reckoning") "from_towers")
  m_Reckoning_cheapest : Meth K (He.ga K "Reckoning") "cheapest" (He.ma K (He.ga K "Reckoning") "cheapest")
  m_Reckoning_told : Meth K (He.ga K "Reckoning") "told" (He.ma K (He.ga K "Reckoning") "told")
  m_Yard_init : Meth K (He.ga K "Yard") "__init__" (He.ma K (He.ga K "Yard") "__init__")
  m_Yard_len : Meth K (He.ga K "Yard") "__len__" (He.ma K (He.ga K "Yard") "__len__")
  m_Yard_reckoning : Meth K (He.ga K "Yard") "reckoning" (He.ma K (He.ga K "Yard") "reckoning")
  x_InvalidArrangement : ExcT K "InvalidArrangement" "value"
  x_InvalidCount : ExcT K "InvalidCount" "value"
  x_InvalidPattern : ExcT K "InvalidPattern" "value"
  x_InvalidWay : ExcT K "InvalidWay" "value"
  x_InvalidYard : ExcT K "InvalidYard" "value"
  t_THIRDS : ThK K w
  t__TURNS : TuK K w
theorem ct_of {w : World} {K : PySem.W.Frag} {h : Heap} {mg : Str → Option Value} (X : K.In h) (G : h.Ns mainGlobals mg) (cc : He5.SaysA fa fn K ∧ tabsM ts K = keysM ts w) (e : ex K = true) : Ct K w mg := by
  have c := cc.1
  unfold ex at e
  simp only [Bool.and_eq_true, and_assoc] at e
  obtain ⟨e0, e_sys, e_xf, e_kr, e_kp, e_tTHIRDS, e_t_TURNS, e_InvalidArrangement, e_InvalidCount, e_InvalidPattern, e_InvalidWay, e_InvalidYard⟩ := e
  exact ⟨c, kfB_ok e0, kS_ok e_sys, xF_ok e_xf, krB_ok e_kr, kpB_ok e_kp, He.glo_ok X G (c.fact 0 (f := .glo "CratesError") rfl), He.glo_ok X G (c.fact 1 (f := .glo "InvalidArrangement") rfl), He.glo_ok X G (c.fact 2 (f := .glo "InvalidCount") rfl), He.glo_ok X G (c.fact 3 (f := .glo "InvalidPattern") rfl), He.glo_ok X G (c.fact 4 (f := .glo "InvalidWay") rfl), He.glo_ok X G (c.fact 5 (f := .glo "InvalidYard") rfl), He.glo_ok X G (c.fact 6 (f := .glo "Nearest") rfl), He.glo_ok X G (c.fact 7 (f := .glo "PLACES") rfl), He.glo_ok X G (c.fact 8 (f := .glo "Reckoning") rfl), He.glo_ok X G (c.fact 9 (f := .glo "THIRDS") rfl), He.glo_ok X G (c.fact 10 (f := .glo "WAYS") rfl), He.glo_ok X G (c.fact 11 (f := .glo "Yard") rfl), He.glo_ok X G (c.fact 12 (f := .glo "_CHOICES") rfl), He.glo_ok X G (c.fact 13 (f := .glo "_TURNS") rfl), He.glo_ok X G (c.fact 14 (f := .glo "_are_rows") rfl), He.glo_ok X G (c.fact 15 (f := .glo "_bring_home") rfl), He.glo_ok X G (c.fact 16 (f := .glo "_cheapest_line") rfl), He.glo_ok X G (c.fact 17 (f := .glo "_cost") rfl), He.glo_ok X G (c.fact 18 (f := .glo "_first_arrangement") rfl), He.glo_ok X G (c.fact 19 (f := .glo "_first_nearest") rfl), He.glo_ok X G (c.fact 20 (f := .glo "_first_shared") rfl), He.glo_ok X G (c.fact 21 (f := .glo "_from_place") rfl), He.glo_ok X G (c.fact 22 (f := .glo "_is_price_row") rfl), He.glo_ok X G (c.fact 23 (f := .glo "_law_asked") rfl), He.glo_ok X G (c.fact 24 (f := .glo "_law_box") rfl), He.glo_ok X G (c.fact 25 (f := .glo "_law_caught") rfl), He.glo_ok X G (c.fact 26 (f := .glo "_law_cell") rfl), He.glo_ok X G (c.fact 27 (f := .glo "_law_fits") rfl), He.glo_ok X G (c.fact 28 (f := .glo "_law_odd") rfl), He.glo_ok X G (c.fact 29 (f := .glo "_law_pattern") rfl), He.glo_ok X G (c.fact 30 (f := .glo "_law_plain") rfl), He.glo_ok X G (c.fact 31 (f := .glo "_law_right") rfl), He.glo_ok X G (c.fact 32 (f := .glo "_law_size") rfl), He.glo_ok X G (c.fact 33 (f := .glo "_law_take") rfl), He.glo_ok X G (c.fact 34 (f := .glo "_law_very_right") rfl), He.glo_ok X G (c.fact 35 (f := .glo "_law_word") rfl), He.glo_ok X G (c.fact 36 (f := .glo "both_lines") rfl), He.glo_ok X G (c.fact 37 (f := .glo "check_arrangement") rfl), He.glo_ok X G (c.fact 38 (f := .glo "check_both") rfl), He.glo_ok X G (c.fact 39 (f := .glo "check_pattern") rfl), He.glo_ok X G (c.fact 40 (f := .glo "check_way") rfl), He.glo_ok X G (c.fact 41 (f := .glo "check_yard") rfl), He.glo_ok X G (c.fact 42 (f := .glo "cost_between") rfl), He.glo_ok X G (c.fact 43 (f := .glo "cost_from") rfl), He.glo_ok X G (c.fact 44 (f := .glo "cost_to") rfl), He.glo_ok X G (c.fact 45 (f := .glo "first_apart") rfl), He.glo_ok X G (c.fact 46 (f := .glo "fits") rfl), He.glo_ok X G (c.fact 47 (f := .glo "from_each_tower") rfl), He.glo_ok X G (c.fact 48 (f := .glo "home_costs") rfl), He.glo_ok X G (c.fact 49 (f := .glo "home_within") rfl), He.glo_ok X G (c.fact 50 (f := .glo "how_many") rfl), He.glo_ok X G (c.fact 51 (f := .glo "how_many_fit") rfl), He.glo_ok X G (c.fact 52 (f := .glo "how_many_nearest") rfl), He.glo_ok X G (c.fact 53 (f := .glo "is_arrangement") rfl), He.glo_ok X G (c.fact 54 (f := .glo "is_integer") rfl), He.glo_ok X G (c.fact 55 (f := .glo "is_pattern") rfl), He.glo_ok X G (c.fact 56 (f := .glo "is_price") rfl), He.glo_ok X G (c.fact 57 (f := .glo "is_way") rfl), He.glo_ok X G (c.fact 58 (f := .glo "law") rfl), He.glo_ok X G (c.fact 59 (f := .glo "nearest") rfl), He.glo_ok X G (c.fact 60 (f := .glo "nearest_start") rfl), He.glo_ok X G (c.fact 61 (f := .glo "pair_between") rfl), He.glo_ok X G (c.fact 62 (f := .glo "reckoning_of") rfl), He.glo_ok X G (c.fact 63 (f := .glo "third") rfl), He.glo_ok X G (c.fact 64 (f := .glo "to_towers_above") rfl), He.glo_ok X G (c.fact 65 (f := .glo "towers_above") rfl), He.glo_ok X G (c.fact 66 (f := .glo "turned") rfl), He.glo_ok X G (c.fact 67 (f := .glo "without_bars") rfl), He.int_ok X G (c.fact 68 (f := .int "MOST_CRATES" 60) rfl), He.str_ok X G (c.fact 69 (f := .str "_PLACE_SIGNS" "abc") rfl), He.free_ok X G (c.fact 70 (f := .free "all") rfl), He.free_ok X G (c.fact 71 (f := .free "any") rfl), He.free_ok X G (c.fact 72 (f := .free "bool") rfl), He.free_ok X G (c.fact 73 (f := .free "enumerate") rfl), He.free_ok X G (c.fact 74 (f := .free "int") rfl), He.free_ok X G (c.fact 75 (f := .free "isinstance") rfl), He.free_ok X G (c.fact 76 (f := .free "len") rfl), He.free_ok X G (c.fact 77 (f := .free "list") rfl), He.free_ok X G (c.fact 78 (f := .free "max") rfl), He.free_ok X G (c.fact 79 (f := .free "min") rfl), He.free_ok X G (c.fact 80 (f := .free "range") rfl), He.free_ok X G (c.fact 81 (f := .free "repr") rfl), He.free_ok X G (c.fact 82 (f := .free "str") rfl), He.free_ok X G (c.fact 83 (f := .free "sum") rfl), He.free_ok X G (c.fact 84 (f := .free "tuple") rfl), He.free_ok X G (c.fact 85 (f := .free "zip") rfl), He.mkr_ok (c.fact 86 (f := .mkr "Yard") rfl), He.mkr_ok (c.fact 87 (f := .mkr "Reckoning") rfl), He.meth_ok (c.fact 88 (f := .meth "Reckoning" "__init__") rfl), He.meth_ok (c.fact 89 (f := .meth "Reckoning" "backwards") rfl), He.meth_ok (c.fact 90 (f := .meth "Reckoning" "to_towers") rfl), He.meth_ok (c.fact 91 (f := .meth "Reckoning" "from_towers") rfl), He.meth_ok (c.fact 92 (f := .meth "Reckoning" "cheapest") rfl), He.meth_ok (c.fact 93 (f := .meth "Reckoning" "told") rfl), He.meth_ok (c.fact 94 (f := .meth "Yard" "__init__") rfl), He.meth_ok (c.fact 95 (f := .meth "Yard" "__len__") rfl), He.meth_ok (c.fact 96 (f := .meth "Yard" "reckoning") rfl), excB_ok e_InvalidArrangement, excB_ok e_InvalidCount, excB_ok e_InvalidPattern, excB_ok e_InvalidWay, excB_ok e_InvalidYard, thK_of (tabM cc.2 0) e_tTHIRDS, tuK_of (tabM cc.2 1) e_t_TURNS⟩
section
variable {P : Program} {w : World} {K : PySem.W.Frag} {mg : Str → Option Value} {base : Heap}
theorem sc_InvalidArrangement_init : FnScope ["self", "value"] ["self", "value"] (defScope s_InvalidArrangement_init) := ⟨rfl, rfl, rfl, by decide +kernel, rfl, by decide +kernel, by decide +kernel⟩
theorem okx_InvalidArrangement (C : Ct K w mg) : GoodX P w K mg base "InvalidArrangement" "value" := by
  obtain ⟨fd, F⟩ := C.says.def_ 1 (d := d_InvalidArrangement_init) rfl
  exact ⟨⟨fd, F.ok sc_InvalidArrangement_init (fun vs H Q E h => spExcI_len vs H Q E h) (fun cdv A outer s H vs Q E hr h => ⟨_, pss_one (ps_ost (pv 0) (pv 1)), read_excI C.x_InvalidArrangement h⟩), F.bindsN fun _ _ _ _ _ _ us hl => match us, hl with | [_, _], _ => rfl⟩, C.x_InvalidArrangement, C.g_InvalidArrangement⟩
theorem sc_InvalidCount_init : FnScope ["self", "value"] ["self", "value"] (defScope s_InvalidCount_init) := ⟨rfl, rfl, rfl, by decide +kernel, rfl, by decide +kernel, by decide +kernel⟩
theorem okx_InvalidCount (C : Ct K w mg) : GoodX P w K mg base "InvalidCount" "value" := by
  obtain ⟨fd, F⟩ := C.says.def_ 3 (d := d_InvalidCount_init) rfl
  exact ⟨⟨fd, F.ok sc_InvalidCount_init (fun vs H Q E h => spExcI_len vs H Q E h) (fun cdv A outer s H vs Q E hr h => ⟨_, pss_one (ps_ost (pv 0) (pv 1)), read_excI C.x_InvalidCount h⟩), F.bindsN fun _ _ _ _ _ _ us hl => match us, hl with | [_, _], _ => rfl⟩, C.x_InvalidCount, C.g_InvalidCount⟩
theorem sc_InvalidPattern_init : FnScope ["self", "value"] ["self", "value"] (defScope s_InvalidPattern_init) := ⟨rfl, rfl, rfl, by decide +kernel, rfl, by decide +kernel, by decide +kernel⟩
theorem okx_InvalidPattern (C : Ct K w mg) : GoodX P w K mg base "InvalidPattern" "value" := by
  obtain ⟨fd, F⟩ := C.says.def_ 4 (d := d_InvalidPattern_init) rfl
  exact ⟨⟨fd, F.ok sc_InvalidPattern_init (fun vs H Q E h => spExcI_len vs H Q E h) (fun cdv A outer s H vs Q E hr h => ⟨_, pss_one (ps_ost (pv 0) (pv 1)), read_excI C.x_InvalidPattern h⟩), F.bindsN fun _ _ _ _ _ _ us hl => match us, hl with | [_, _], _ => rfl⟩, C.x_InvalidPattern, C.g_InvalidPattern⟩
theorem sc_InvalidWay_init : FnScope ["self", "value"] ["self", "value"] (defScope s_InvalidWay_init) := ⟨rfl, rfl, rfl, by decide +kernel, rfl, by decide +kernel, by decide +kernel⟩
theorem okx_InvalidWay (C : Ct K w mg) : GoodX P w K mg base "InvalidWay" "value" := by
  obtain ⟨fd, F⟩ := C.says.def_ 2 (d := d_InvalidWay_init) rfl
  exact ⟨⟨fd, F.ok sc_InvalidWay_init (fun vs H Q E h => spExcI_len vs H Q E h) (fun cdv A outer s H vs Q E hr h => ⟨_, pss_one (ps_ost (pv 0) (pv 1)), read_excI C.x_InvalidWay h⟩), F.bindsN fun _ _ _ _ _ _ us hl => match us, hl with | [_, _], _ => rfl⟩, C.x_InvalidWay, C.g_InvalidWay⟩
theorem sc_InvalidYard_init : FnScope ["self", "value"] ["self", "value"] (defScope s_InvalidYard_init) := ⟨rfl, rfl, rfl, by decide +kernel, rfl, by decide +kernel, by decide +kernel⟩
theorem okx_InvalidYard (C : Ct K w mg) : GoodX P w K mg base "InvalidYard" "value" := by
  obtain ⟨fd, F⟩ := C.says.def_ 0 (d := d_InvalidYard_init) rfl
  exact ⟨⟨fd, F.ok sc_InvalidYard_init (fun vs H Q E h => spExcI_len vs H Q E h) (fun cdv A outer s H vs Q E hr h => ⟨_, pss_one (ps_ost (pv 0) (pv 1)), read_excI C.x_InvalidYard h⟩), F.bindsN fun _ _ _ _ _ _ us hl => match us, hl with | [_, _], _ => rfl⟩, C.x_InvalidYard, C.g_InvalidYard⟩
theorem ok__law_box (C : Ct K w mg) : GoodO P w K mg base 1 "_law_box" ["_law_cell_here"] (sp__law_box K) := by
  obtain ⟨fd, F⟩ := C.says.def_ 49 (d := d__law_box) rfl
  exact ⟨⟨fd, F.ok (k := 0) sc__law_box (fun vs H Q E h => sp1_len vs H Q E h) (fun cdv A outer s H vs Q E hr h => ⟨t__law_box K E, (have hu := hr.units; (pss_one (ps_ret (pe_lst (pa_cons (pe_callB (call_max2 rfl) (by rfl) C.n_max (by decide +kernel) (pa_cons pe_int (pa_cons (pe_op op_uSub (pv 0) (pe_op op_uPow pe_int pe_int)) pa_nil))) (pa_cons (pe_op op_uMod (pe_callTy call_int1 (by rfl) C.n_int (by decide +kernel) (pa_cons (pv 0) pa_nil)) pe_int) (pa_cons pe_int pa_nil))))))), read__law_box C.F h⟩), F.bindsN fun _ _ _ _ _ _ us hl => match us, hl with | [_], _ => rfl⟩, C.g__law_box, F.kp⟩
theorem ok_Yard_len (C : Ct K w mg) : GoodM P w K mg base 1 "Yard" "__len__" ["self"] (sp_Yard_len K) := by
  obtain ⟨fd, F⟩ := C.says.def_ 27 (d := d_Yard_len) rfl
  exact ⟨⟨fd, F.ok (k := 0) sc_Yard_len (fun vs H Q E h => sp1_len vs H Q E h) (fun cdv A outer s H vs Q E hr h => ⟨t_Yard_len K E, (have hu := hr.units; (pss_one (ps_ret (pe_callB call_uLen (by rfl) C.n_len boot_len (pa_cons (pe_fld (pv 0) rfl) pa_nil))))), read_Yard_len C.F h⟩), F.bindsN fun _ _ _ _ _ _ us hl => match us, hl with | [_], _ => rfl⟩, C.m_Yard_len, C.F.cl⟩
theorem ok_check_yard (C : Ct K w mg) : GoodO P w K mg base 3 "check_yard" ["yard"] (sp_check_yard K) := by
  obtain ⟨fd, F⟩ := C.says.def_ 25 (d := d_check_yard) rfl
  exact ⟨⟨fd, F.ok (k := 2) sc_check_yard (fun vs H Q E h => sp1_len vs H Q E h) (fun cdv A outer s H vs Q E hr h => ⟨t_check_yard K E, (have hu := hr.units; (pss_one (ps_if (pt_not (pt_val (pe_callB call_uIsi (by rfl) C.n_isinstance (by decide +kernel) (pa_cons (pv 0) (pa_cons (pe_glob (by rfl) C.g_Yard rfl) pa_nil))))) (pss_one (ps_rse (okx_InvalidYard C) (hr.mono (by decide)) rfl (takes_of rfl rfl rfl rfl) (by rfl) (pa_cons (pv 0) pa_nil))) pss_nil))), read_check_yard C.F h⟩), F.bindsN fun _ _ _ _ _ _ us hl => match us, hl with | [_], _ => rfl⟩, C.g_check_yard, F.kp⟩
theorem ok_is_pattern (C : Ct K w mg) : GoodO P w K mg base 4 "is_pattern" ["yard", "value"] (sp_is_pattern K) := by
  obtain ⟨fd, F⟩ := C.says.def_ 34 (d := d_is_pattern) rfl
  exact ⟨⟨fd, F.ok (k := 3) sc_is_pattern (fun vs H Q E h => sp2_len vs H Q E h) (fun cdv A outer s H vs Q E hr h => ⟨t_is_pattern K E, (have hu := hr.units; (pss_cons (ps_expr (pe_fo (ok_check_yard C) (hr.mono (by decide)) (by rfl) (passes_call (takes_of rfl rfl rfl rfl) fun _ _ _ _ h => h) (ha := (pa_cons (pv 0) pa_nil)))) (pss_one (ps_ret (pe_and (pe_callB call_uIsi (by rfl) C.n_isinstance (by decide +kernel) (pa_cons (pv 1) (pa_cons (pe_tup (pa_cons (pe_bltn (v := .ty "list") (by rfl) C.n_list (by decide +kernel) rfl) (pa_cons (pe_bltn (v := .ty "tuple") (by rfl) C.n_tuple (by decide +kernel) rfl) pa_nil))) pa_nil))) (pe_and (pe_cmpR (op_uEq hu) (pe_callB call_uLen (by rfl) C.n_len boot_len (pa_cons (pv 1) pa_nil)) (pe_lenY (ok_Yard_len C) (hr.mono (by decide)) (by rfl) C.n_len (pa_cons (pv 0) pa_nil)) (by rfl)) (pe_one (pe_callB (cr_all rfl) (by rfl) C.n_all (by decide +kernel) (pa_cons (pe_lc (own := [("places", 2)]) (g := (gName 2)) (tt := tYes) rfl sc_is_pattern.nd (pi_seq (pv 1)) (blkOk_by (N := n_is_pattern) (sc := defScope s_is_pattern) (by decide +kernel)) (fun _ _ _ _ _ => (pg_name (i := 2) sc_is_pattern.nd rfl (Or.inl rfl))) (fun _ _ _ _ _ => pts_nil) (fun _ _ _ _ _ => (pe_and (pe_callB call_uIsi (by rfl) C.n_isinstance (by decide +kernel) (pa_cons (pv 2) (pa_cons (pe_bltn (v := .ty "str") (by rfl) C.n_str (by decide +kernel) rfl) pa_nil))) (pe_one (pe_cmpR op_uIn (pv 2) (pe_glob (by rfl) C.g__CHOICES rfl) (by rfl)))))) pa_nil))))))))), read_is_pattern C.F C.kp h⟩), F.bindsN fun _ _ _ _ _ _ us hl => match us, hl with | [_, _], _ => rfl⟩, C.g_is_pattern, F.kp⟩
theorem ok_check_pattern (C : Ct K w mg) : GoodO P w K mg base 5 "check_pattern" ["yard", "pattern"] (sp_check_pattern K) := by
  obtain ⟨fd, F⟩ := C.says.def_ 35 (d := d_check_pattern) rfl
  exact ⟨⟨fd, F.ok (k := 4) sc_check_pattern (fun vs H Q E h => sp2_len vs H Q E h) (fun cdv A outer s H vs Q E hr h => ⟨t_check_pattern K E, (have hu := hr.units; (pss_one (ps_if (pt_not (pt_val (pe_fo (ok_is_pattern C) (hr.mono (by decide)) (by rfl) (passes_call (takes_of rfl rfl rfl rfl) fun _ _ _ _ h => h) (ha := (pa_cons (pv 0) (pa_cons (pv 1) pa_nil)))))) (pss_one (ps_rse (okx_InvalidPattern C) (hr.mono (by decide)) rfl (takes_of rfl rfl rfl rfl) (by rfl) (pa_cons (pv 1) pa_nil))) pss_nil))), read_check_pattern C.F C.kp h⟩), F.bindsN fun _ _ _ _ _ _ us hl => match us, hl with | [_, _], _ => rfl⟩, C.g_check_pattern, F.kp⟩
theorem ok_cost_between (C : Ct K w mg) : GoodO P w K mg base 6 "cost_between" ["yard", "starts", "goals"] (sp_cost_between K) := by
  obtain ⟨fd, F⟩ := C.says.def_ 40 (d := d_cost_between) rfl
  exact ⟨⟨fd, F.ok (k := 5) sc_cost_between (fun vs H Q E h => sp3_len vs H Q E h) (fun cdv A outer s H vs Q E hr h => ⟨t_cost_between K E, (have hu := hr.units; (pss_cons (ps_expr (pe_fo (ok_check_pattern C) (hr.mono (by decide)) (by rfl) (passes_call (takes_of rfl rfl rfl rfl) fun _ _ _ _ h => h) (ha := (pa_cons (pv 0) (pa_cons (pv 1) pa_nil))))) (pss_cons (ps_expr (pe_fo (ok_check_pattern C) (hr.mono (by decide)) (by rfl) (passes_call (takes_of rfl rfl rfl rfl) fun _ _ _ _ h => h) (ha := (pa_cons (pv 0) (pa_cons (pv 2) pa_nil))))) (pss_one ps_never)))), read_cost_between C.F C.kp h⟩), F.bindsN fun _ _ _ _ _ _ us hl => match us, hl with | [_, _, _], _ => rfl⟩, C.g_cost_between, F.kp⟩
theorem ok_is_arrangement (C : Ct K w mg) : GoodO P w K mg base 4 "is_arrangement" ["yard", "value"] (sp_is_arrangement K) := by
  obtain ⟨fd, F⟩ := C.says.def_ 31 (d := d_is_arrangement) rfl
  exact ⟨⟨fd, F.ok (k := 3) sc_is_arrangement (fun vs H Q E h => sp2_len vs H Q E h) (fun cdv A outer s H vs Q E hr h => ⟨t_is_arrangement K E, (have hu := hr.units; (pss_cons (ps_expr (pe_fo (ok_check_yard C) (hr.mono (by decide)) (by rfl) (passes_call (takes_of rfl rfl rfl rfl) fun _ _ _ _ h => h) (ha := (pa_cons (pv 0) pa_nil)))) (pss_one (ps_ret (pe_and (pe_callB call_uIsi (by rfl) C.n_isinstance (by decide +kernel) (pa_cons (pv 1) (pa_cons (pe_bltn (v := .ty "str") (by rfl) C.n_str (by decide +kernel) rfl) pa_nil))) (pe_and (pe_cmpR (op_uEq hu) (pe_callB call_uLen (by rfl) C.n_len boot_len (pa_cons (pv 1) pa_nil)) (pe_lenY (ok_Yard_len C) (hr.mono (by decide)) (by rfl) C.n_len (pa_cons (pv 0) pa_nil)) (by rfl)) (pe_one (pe_cmpR (op_uEq hu) (pe_bm PySem.F.plainAttrs_str PySem.F.slot_str_strip PySem.F.type_str_strip mt_stripU (pv 1) (pa_cons (pe_str_of (by rfl) (C.str__PLACE_SIGNS)) pa_nil)) pe_str (by rfl))))))))), read_is_arrangement C.F h⟩), F.bindsN fun _ _ _ _ _ _ us hl => match us, hl with | [_, _], _ => rfl⟩, C.g_is_arrangement, F.kp⟩
theorem ok_check_arrangement (C : Ct K w mg) : GoodO P w K mg base 5 "check_arrangement" ["yard", "arrangement"] (sp_check_arrangement K) := by
  obtain ⟨fd, F⟩ := C.says.def_ 32 (d := d_check_arrangement) rfl
  exact ⟨⟨fd, F.ok (k := 4) sc_check_arrangement (fun vs H Q E h => sp2_len vs H Q E h) (fun cdv A outer s H vs Q E hr h => ⟨t_check_arrangement K E, (have hu := hr.units; (pss_one (ps_if (pt_not (pt_val (pe_fo (ok_is_arrangement C) (hr.mono (by decide)) (by rfl) (passes_call (takes_of rfl rfl rfl rfl) fun _ _ _ _ h => h) (ha := (pa_cons (pv 0) (pa_cons (pv 1) pa_nil)))))) (pss_one (ps_rse (okx_InvalidArrangement C) (hr.mono (by decide)) rfl (takes_of rfl rfl rfl rfl) (by rfl) (pa_cons (pv 1) pa_nil))) pss_nil))), read_check_arrangement C.F h⟩), F.bindsN fun _ _ _ _ _ _ us hl => match us, hl with | [_, _], _ => rfl⟩, C.g_check_arrangement, F.kp⟩
theorem ok_cost_from (C : Ct K w mg) : GoodO P w K mg base 6 "cost_from" ["yard", "pattern", "goal"] (sp_cost_from K) := by
  obtain ⟨fd, F⟩ := C.says.def_ 39 (d := d_cost_from) rfl
  exact ⟨⟨fd, F.ok (k := 5) sc_cost_from (fun vs H Q E h => sp3_len vs H Q E h) (fun cdv A outer s H vs Q E hr h => ⟨t_cost_from K E, (have hu := hr.units; (pss_cons (ps_expr (pe_fo (ok_check_pattern C) (hr.mono (by decide)) (by rfl) (passes_call (takes_of rfl rfl rfl rfl) fun _ _ _ _ h => h) (ha := (pa_cons (pv 0) (pa_cons (pv 1) pa_nil))))) (pss_cons (ps_expr (pe_fo (ok_check_arrangement C) (hr.mono (by decide)) (by rfl) (passes_call (takes_of rfl rfl rfl rfl) fun _ _ _ _ h => h) (ha := (pa_cons (pv 0) (pa_cons (pv 2) pa_nil))))) (pss_one ps_never)))), read_cost_from C.F C.kp h⟩), F.bindsN fun _ _ _ _ _ _ us hl => match us, hl with | [_, _, _], _ => rfl⟩, C.g_cost_from, F.kp⟩
theorem ok_cost_to (C : Ct K w mg) : GoodO P w K mg base 6 "cost_to" ["yard", "start", "pattern"] (sp_cost_to K) := by
  obtain ⟨fd, F⟩ := C.says.def_ 38 (d := d_cost_to) rfl
  exact ⟨⟨fd, F.ok (k := 5) sc_cost_to (fun vs H Q E h => sp3_len vs H Q E h) (fun cdv A outer s H vs Q E hr h => ⟨t_cost_to K E, (have hu := hr.units; (pss_cons (ps_expr (pe_fo (ok_check_arrangement C) (hr.mono (by decide)) (by rfl) (passes_call (takes_of rfl rfl rfl rfl) fun _ _ _ _ h => h) (ha := (pa_cons (pv 0) (pa_cons (pv 1) pa_nil))))) (pss_cons (ps_expr (pe_fo (ok_check_pattern C) (hr.mono (by decide)) (by rfl) (passes_call (takes_of rfl rfl rfl rfl) fun _ _ _ _ h => h) (ha := (pa_cons (pv 0) (pa_cons (pv 2) pa_nil))))) (pss_one ps_never)))), read_cost_to C.F C.kp h⟩), F.bindsN fun _ _ _ _ _ _ us hl => match us, hl with | [_, _, _], _ => rfl⟩, C.g_cost_to, F.kp⟩
theorem ok_fits (C : Ct K w mg) : GoodO P w K mg base 6 "fits" ["yard", "pattern", "arrangement"] (sp_fits K) := by
  obtain ⟨fd, F⟩ := C.says.def_ 36 (d := d_fits) rfl
  exact ⟨⟨fd, F.ok (k := 5) sc_fits (fun vs H Q E h => sp3_len vs H Q E h) (fun cdv A outer s H vs Q E hr h => ⟨t_fits K E, (have hu := hr.units; (pss_cons (ps_expr (pe_fo (ok_check_pattern C) (hr.mono (by decide)) (by rfl) (passes_call (takes_of rfl rfl rfl rfl) fun _ _ _ _ h => h) (ha := (pa_cons (pv 0) (pa_cons (pv 1) pa_nil))))) (pss_cons (ps_expr (pe_fo (ok_check_arrangement C) (hr.mono (by decide)) (by rfl) (passes_call (takes_of rfl rfl rfl rfl) fun _ _ _ _ h => h) (ha := (pa_cons (pv 0) (pa_cons (pv 2) pa_nil))))) (pss_one (ps_ret (pe_callB (cr_all rfl) (by rfl) C.n_all (by decide +kernel) (pa_cons (pe_lc (own := [("place", 3), ("places", 4)]) (g := (gTup K 2 (gCons (gName 3) (gCons (gName 4) gNil)))) (tt := tYes) rfl sc_fits.nd (pi_zipG (by rfl) C.n_zip (pa_cons (pv 2) (pa_cons (pv 1) pa_nil))) (blkOk_by (N := n_fits) (sc := defScope s_fits) (by decide +kernel)) (fun _ _ _ _ _ => (pg_tup (by rfl) (pgs_cons (pg_name (i := 3) sc_fits.nd rfl (Or.inl rfl)) (pgs_cons (pg_name (i := 4) sc_fits.nd rfl (Or.inl rfl)) pgs_nil)))) (fun _ _ _ _ _ => pts_nil) (fun _ _ _ _ _ => (pe_cmpR op_uIn (pv 3) (pv 4) (by rfl)))) pa_nil))))))), read_fits C.F C.kp h⟩), F.bindsN fun _ _ _ _ _ _ us hl => match us, hl with | [_, _, _], _ => rfl⟩, C.g_fits, F.kp⟩
theorem ok__from_place (C : Ct K w mg) : GoodO P w K mg base 1 "_from_place" ["place", "prices", "towers", "below"] (sp__from_place K) := by
  obtain ⟨fd, F⟩ := C.says.def_ 8 (d := d__from_place) rfl
  exact ⟨⟨fd, F.ok (k := 0) sc__from_place (fun vs H Q E h => sp4_len vs H Q E h) (fun cdv A outer s H vs Q E hr h => ⟨t__from_place K E, (have hu := hr.units; (pss_cons (ps_asg (pv 2) (pg_tup (by rfl) (pgs_cons (pg_name (i := 4) sc__from_place.nd rfl (Or.inl rfl)) (pgs_cons (pg_name (i := 5) sc__from_place.nd rfl (Or.inl rfl)) (pgs_cons (pg_name (i := 6) sc__from_place.nd rfl (Or.inl rfl)) (pgs_cons (pg_name (i := 7) sc__from_place.nd rfl (Or.inl rfl)) (pgs_cons (pg_name (i := 8) sc__from_place.nd rfl (Or.inl rfl)) (pgs_cons (pg_name (i := 9) sc__from_place.nd rfl (Or.inl rfl)) pgs_nil)))))))) (pss_cons (ps_asg (pv 1) (pg_tup (by rfl) (pgs_cons (pg_name (i := 10) sc__from_place.nd rfl (Or.inl rfl)) (pgs_cons (pg_name (i := 11) sc__from_place.nd rfl (Or.inl rfl)) (pgs_cons (pg_name (i := 12) sc__from_place.nd rfl (Or.inl rfl)) (pgs_cons (pg_name (i := 13) sc__from_place.nd rfl (Or.inl rfl)) (pgs_cons (pg_name (i := 14) sc__from_place.nd rfl (Or.inl rfl)) (pgs_cons (pg_name (i := 15) sc__from_place.nd rfl (Or.inl rfl)) pgs_nil)))))))) (pss_cons (ps_asg (pv 3) (pg_tup (by rfl) (pgs_cons (pg_name (i := 16) sc__from_place.nd rfl (Or.inl rfl)) (pgs_cons (pg_name (i := 17) sc__from_place.nd rfl (Or.inl rfl)) (pgs_cons (pg_name (i := 18) sc__from_place.nd rfl (Or.inl rfl)) pgs_nil))))) (pss_cons (ps_if (pt_cmpR (op_uEq hu) (pv 0) pe_str (by rfl)) (pss_one (ps_ret (pe_tup (pa_cons (pv 16) (pa_cons (pe_callB (call_min2 rfl) (by rfl) C.n_min (by decide +kernel) (pa_cons (pe_op op_uAdd (pe_op op_uAdd (pv 18) (pv 10)) (pv 9)) (pa_cons (pe_op op_uAdd (pe_op op_uAdd (pe_op op_uAdd (pe_op op_uAdd (pv 17) (pv 11)) (pv 6)) (pv 15)) (pv 4)) pa_nil))) (pa_cons (pe_callB (call_min2 rfl) (by rfl) C.n_min (by decide +kernel) (pa_cons (pe_op op_uAdd (pe_op op_uAdd (pv 17) (pv 11)) (pv 7)) (pa_cons (pe_op op_uAdd (pe_op op_uAdd (pe_op op_uAdd (pe_op op_uAdd (pv 18) (pv 10)) (pv 8)) (pv 13)) (pv 5)) pa_nil))) pa_nil)))))) pss_nil) (pss_cons (ps_if (pt_cmpR (op_uEq hu) (pv 0) pe_str (by rfl)) (pss_one (ps_ret (pe_tup (pa_cons (pe_callB (call_min2 rfl) (by rfl) C.n_min (by decide +kernel) (pa_cons (pe_op op_uAdd (pe_op op_uAdd (pv 18) (pv 12)) (pv 8)) (pa_cons (pe_op op_uAdd (pe_op op_uAdd (pe_op op_uAdd (pe_op op_uAdd (pv 16) (pv 13)) (pv 4)) (pv 14)) (pv 6)) pa_nil))) (pa_cons (pv 17) (pa_cons (pe_callB (call_min2 rfl) (by rfl) C.n_min (by decide +kernel) (pa_cons (pe_op op_uAdd (pe_op op_uAdd (pv 16) (pv 13)) (pv 5)) (pa_cons (pe_op op_uAdd (pe_op op_uAdd (pe_op op_uAdd (pe_op op_uAdd (pv 18) (pv 12)) (pv 9)) (pv 11)) (pv 7)) pa_nil))) pa_nil)))))) pss_nil) (pss_one (ps_ret (pe_tup (pa_cons (pe_callB (call_min2 rfl) (by rfl) C.n_min (by decide +kernel) (pa_cons (pe_op op_uAdd (pe_op op_uAdd (pv 17) (pv 14)) (pv 6)) (pa_cons (pe_op op_uAdd (pe_op op_uAdd (pe_op op_uAdd (pe_op op_uAdd (pv 16) (pv 15)) (pv 5)) (pv 12)) (pv 8)) pa_nil))) (pa_cons (pe_callB (call_min2 rfl) (by rfl) C.n_min (by decide +kernel) (pa_cons (pe_op op_uAdd (pe_op op_uAdd (pv 16) (pv 15)) (pv 4)) (pa_cons (pe_op op_uAdd (pe_op op_uAdd (pe_op op_uAdd (pe_op op_uAdd (pv 17) (pv 14)) (pv 7)) (pv 10)) (pv 9)) pa_nil))) (pa_cons (pv 18) pa_nil)))))))))))), read__from_place C.F h⟩), F.bindsN fun _ _ _ _ _ _ us hl => match us, hl with | [_, _, _, _], _ => rfl⟩, C.g__from_place, F.kp⟩
theorem ok_to_towers_above (C : Ct K w mg) : GoodO P w K mg base 2 "to_towers_above" ["places", "prices", "towers", "below"] (sp_to_towers_above K) := by
  obtain ⟨fd, F⟩ := C.says.def_ 7 (d := d_to_towers_above) rfl
  exact ⟨⟨fd, F.ok (k := 1) sc_to_towers_above (fun vs H Q E h => sp4_len vs H Q E h) (fun cdv A outer s H vs Q E hr h => ⟨t_to_towers_above K E, (have hu := hr.units; (pss_cons (ps_if (pt_cmpR (op_uEq hu) (pe_callB call_uLen (by rfl) C.n_len boot_len (pa_cons (pv 0) pa_nil)) pe_int (by rfl)) (pss_one (ps_ret (pe_fo (ok__from_place C) (hr.mono (by decide)) (by rfl) (passes_call (takes_of rfl rfl rfl rfl) fun _ _ _ _ h => h) (ha := (pa_cons (pv 0) (pa_cons (pv 1) (pa_cons (pv 2) (pa_cons (pv 3) pa_nil)))))))) pss_nil) (pss_cons (ps_setLc (i := 4) (own := [("place", 5)]) (g := (gName 5)) (tt := tYes) rfl sc_to_towers_above.nd rfl rfl (by exact sw_true rfl rfl rfl (by decide +kernel)) (pi_seq (pv 0)) (blkOk_by (N := n_to_towers_above) (sc := defScope s_to_towers_above) (by decide +kernel)) (fun _ _ _ _ _ => (pg_name (i := 5) sc_to_towers_above.nd rfl (Or.inl rfl))) (fun _ _ _ _ _ => pts_nil) (fun _ _ _ _ _ => (pe_fo (ok__from_place C) (hr.mono (by decide)) (by rfl) passL (ha := (pa_cons (pv 5) (pa_cons (pv 1) (pa_cons (pv 2) (pa_cons (pv 3) pa_nil)))))))) (pss_one ps_never)))), read_to_towers_above C.F h⟩), F.bindsN fun _ _ _ _ _ _ us hl => match us, hl with | [_, _, _, _], _ => rfl⟩, C.g_to_towers_above, F.kp⟩
theorem ok_Reckoning_to_towers (C : Ct K w mg) : GoodM P w K mg base 3 "Reckoning" "to_towers" ["self", "starts"] (sp_Reckoning_to_towers K) := by
  obtain ⟨fd, F⟩ := C.says.def_ 15 (d := d_Reckoning_to_towers) rfl
  exact ⟨⟨fd, F.ok (k := 2) sc_Reckoning_to_towers (fun vs H Q E h => sp2_len vs H Q E h) (fun cdv A outer s H vs Q E hr h => ⟨t_Reckoning_to_towers K E, (have hu := hr.units; (pss_cons (ps_set (i := 2) sc_Reckoning_to_towers.nd rfl (Or.inl rfl) (pe_lst (pa_cons (pe_tup (pa_cons pe_int (pa_cons pe_int (pa_cons pe_int pa_nil)))) pa_nil))) (pss_cons (ps_for (passes_of rfl) rfl (pi_zip3 (by rfl) C.n_zip (pa_cons (pe_revS (pv 1)) (pa_cons (pe_fld (pv 0) rfl) (pa_cons (pe_fld (pv 0) rfl) pa_nil)))) (pg_tup (by rfl) (pgs_cons (pg_name (i := 3) sc_Reckoning_to_towers.nd rfl (Or.inl rfl)) (pgs_cons (pg_name (i := 4) sc_Reckoning_to_towers.nd rfl (Or.inl rfl)) (pgs_cons (pg_name (i := 5) sc_Reckoning_to_towers.nd rfl (Or.inl rfl)) pgs_nil)))) (pss_one (ps_expr (pe_bm PySem.F.plainAttrs_list PySem.F.slot_list_append PySem.F.type_list_append mt_append (pv 2) (pa_cons (pe_fo (ok_to_towers_above C) (hr.mono (by decide)) (by rfl) (passes_call (takes_of rfl rfl rfl rfl) fun _ _ _ _ h => h) (ha := (pa_cons (pv 3) (pa_cons (pv 4) (pa_cons (pv 5) (pa_cons (pe_ix ix_u (pv 2) (pe_un un_neg pe_int) (fun _ _ => rfl)) pa_nil)))))) pa_nil))))) (pss_one (ps_ret (pv 2)))))), read_Reckoning_to_towers C.F C.kr h⟩), F.bindsN fun _ _ _ _ _ _ us hl => match us, hl with | [_, _], _ => rfl⟩, C.m_Reckoning_to_towers, C.kr.cl⟩
theorem ok_Reckoning_told (C : Ct K w mg) : GoodM P w K mg base 1 "Reckoning" "told" ["self", "number"] (sp_Reckoning_told K) := by
  obtain ⟨fd, F⟩ := C.says.def_ 18 (d := d_Reckoning_told) rfl
  exact ⟨⟨fd, F.ok (k := 0) sc_Reckoning_told (fun vs H Q E h => sp2_len vs H Q E h) (fun cdv A outer s H vs Q E hr h => ⟨t_Reckoning_told K E, (have hu := hr.units; (pss_one (ps_ret (pe_ifExp (pt_cmpR op_uLt (pv 1) (pe_fld (pv 0) rfl) (by rfl)) (pv 1) pe_non)))), read_Reckoning_told C.F C.kr h⟩), F.bindsN fun _ _ _ _ _ _ us hl => match us, hl with | [_, _], _ => rfl⟩, C.m_Reckoning_told, C.kr.cl⟩
theorem ok_towers_above (C : Ct K w mg) : GoodO P w K mg base 1 "towers_above" ["prices", "below"] (sp_towers_above K) := by
  obtain ⟨fd, F⟩ := C.says.def_ 6 (d := d_towers_above) rfl
  exact ⟨⟨fd, F.ok (k := 0) sc_towers_above (fun vs H Q E h => sp2_len vs H Q E h) (fun cdv A outer s H vs Q E hr h => ⟨t_towers_above K E, (have hu := hr.units; (pss_cons (ps_asg (pv 1) (pg_tup (by rfl) (pgs_cons (pg_name (i := 2) sc_towers_above.nd rfl (Or.inl rfl)) (pgs_cons (pg_name (i := 3) sc_towers_above.nd rfl (Or.inl rfl)) (pgs_cons (pg_name (i := 4) sc_towers_above.nd rfl (Or.inl rfl)) (pgs_cons (pg_name (i := 5) sc_towers_above.nd rfl (Or.inl rfl)) (pgs_cons (pg_name (i := 6) sc_towers_above.nd rfl (Or.inl rfl)) (pgs_cons (pg_name (i := 7) sc_towers_above.nd rfl (Or.inl rfl)) pgs_nil)))))))) (pss_cons (ps_asg (pv 0) (pg_tup (by rfl) (pgs_cons (pg_name (i := 8) sc_towers_above.nd rfl (Or.inl rfl)) (pgs_cons (pg_name (i := 9) sc_towers_above.nd rfl (Or.inl rfl)) (pgs_cons (pg_name (i := 10) sc_towers_above.nd rfl (Or.inl rfl)) (pgs_cons (pg_name (i := 11) sc_towers_above.nd rfl (Or.inl rfl)) (pgs_cons (pg_name (i := 12) sc_towers_above.nd rfl (Or.inl rfl)) (pgs_cons (pg_name (i := 13) sc_towers_above.nd rfl (Or.inl rfl)) pgs_nil)))))))) (pss_one (ps_ret (pe_tup (pa_cons (pe_callB (call_min2 rfl) (by rfl) C.n_min (by decide +kernel) (pa_cons (pe_op op_uAdd (pe_op op_uAdd (pv 3) (pv 8)) (pv 7)) (pa_cons (pe_op op_uAdd (pe_op op_uAdd (pe_op op_uAdd (pe_op op_uAdd (pv 2) (pv 9)) (pv 4)) (pv 13)) (pv 2)) pa_nil))) (pa_cons (pe_callB (call_min2 rfl) (by rfl) C.n_min (by decide +kernel) (pa_cons (pe_op op_uAdd (pe_op op_uAdd (pv 2) (pv 9)) (pv 5)) (pa_cons (pe_op op_uAdd (pe_op op_uAdd (pe_op op_uAdd (pe_op op_uAdd (pv 3) (pv 8)) (pv 6)) (pv 11)) (pv 3)) pa_nil))) (pa_cons (pe_callB (call_min2 rfl) (by rfl) C.n_min (by decide +kernel) (pa_cons (pe_op op_uAdd (pe_op op_uAdd (pv 5) (pv 10)) (pv 6)) (pa_cons (pe_op op_uAdd (pe_op op_uAdd (pe_op op_uAdd (pe_op op_uAdd (pv 4) (pv 11)) (pv 2)) (pv 12)) (pv 4)) pa_nil))) (pa_cons (pe_callB (call_min2 rfl) (by rfl) C.n_min (by decide +kernel) (pa_cons (pe_op op_uAdd (pe_op op_uAdd (pv 4) (pv 11)) (pv 3)) (pa_cons (pe_op op_uAdd (pe_op op_uAdd (pe_op op_uAdd (pe_op op_uAdd (pv 5) (pv 10)) (pv 7)) (pv 9)) (pv 5)) pa_nil))) (pa_cons (pe_callB (call_min2 rfl) (by rfl) C.n_min (by decide +kernel) (pa_cons (pe_op op_uAdd (pe_op op_uAdd (pv 7) (pv 12)) (pv 4)) (pa_cons (pe_op op_uAdd (pe_op op_uAdd (pe_op op_uAdd (pe_op op_uAdd (pv 6) (pv 13)) (pv 3)) (pv 10)) (pv 6)) pa_nil))) (pa_cons (pe_callB (call_min2 rfl) (by rfl) C.n_min (by decide +kernel) (pa_cons (pe_op op_uAdd (pe_op op_uAdd (pv 6) (pv 13)) (pv 2)) (pa_cons (pe_op op_uAdd (pe_op op_uAdd (pe_op op_uAdd (pe_op op_uAdd (pv 7) (pv 12)) (pv 5)) (pv 8)) (pv 7)) pa_nil))) pa_nil)))))))))))), read_towers_above C.F h⟩), F.bindsN fun _ _ _ _ _ _ us hl => match us, hl with | [_, _], _ => rfl⟩, C.g_towers_above, F.kp⟩
theorem ok_without_bars (C : Ct K w mg) : GoodO P w K mg base 1 "without_bars" ["rows", "bound"] (sp_without_bars K) := by
  obtain ⟨fd, F⟩ := C.says.def_ 12 (d := d_without_bars) rfl
  exact ⟨⟨fd, F.ok (k := 0) sc_without_bars (fun vs H Q E h => sp2_len vs H Q E h) (fun cdv A outer s H vs Q E hr h => ⟨t_without_bars K E, (have hu := hr.units; (pss_one (ps_ret (pe_lc (own := [("row", 2)]) (g := (gName 2)) (tt := tYes) rfl sc_without_bars.nd (pi_seq (pe_revU (pv 0))) (blkOk_by (N := n_without_bars) (sc := defScope s_without_bars) (by decide +kernel)) (fun _ _ _ _ _ => (pg_name (i := 2) sc_without_bars.nd rfl (Or.inl rfl))) (fun _ _ _ _ _ => pts_nil) (fun _ _ _ _ _ => (pe_ifExp (pt_cmpR op_uIn pe_non (pv 2) (by rfl)) (pe_callTy (call_uTup rfl) (by rfl) C.n_tuple (by decide +kernel) (pa_cons (pe_lc (own := [("price", 3)]) (g := (gName 3)) (tt := tYes) rfl sc_without_bars.nd (pi_seq (pv 2)) (blkOk_by (N := n_without_bars) (sc := ({ kind := .function, names := [(".0", .local), ("row", .local), ("tuple", .globalImplicit), ("bound", .cell)], isGenerator := false, isCoroutine := false } : Scope)) (by decide +kernel)) (fun _ _ _ _ _ => (pg_name (i := 3) sc_without_bars.nd rfl (Or.inl rfl))) (fun _ _ _ _ _ => pts_nil) (fun _ _ _ _ _ => (pe_ifExp (pt_cmpR op_uIs (pv 3) pe_non (by rfl)) (pv 1) (pv 3)))) pa_nil)) (pv 2))))))), read_without_bars C.F h⟩), F.bindsN fun _ _ _ _ _ _ us hl => match us, hl with | [_, _], _ => rfl⟩, C.g_without_bars, F.kp⟩
theorem ok_Reckoning_init (C : Ct K w mg) : GoodM P w K mg base 1 "Reckoning" "__init__" ["self", "bound", "prices", "towers"] (sp_Reckoning_init K) := by
  obtain ⟨fd, F⟩ := C.says.def_ 13 (d := d_Reckoning_init) rfl
  exact ⟨⟨fd, F.ok (k := 0) sc_Reckoning_init (fun vs H Q E h => sp4_len vs H Q E h) (fun cdv A outer s H vs Q E hr h => ⟨t_Reckoning_init K E, (have hu := hr.units; (pss_cons (ps_fld (pv 0) (pv 1) rfl) (pss_cons (ps_fld (pv 0) (pv 2) rfl) (pss_cons (ps_fld (pv 0) (pv 3) rfl) (pss_one (ps_fld (pv 0) pe_non rfl)))))), read_Reckoning_init C.F C.kr h⟩), F.bindsN fun _ _ _ _ _ _ us hl => match us, hl with | [_, _, _, _], _ => rfl⟩, C.m_Reckoning_init, C.kr.cl⟩
theorem ok_reckoning_of (C : Ct K w mg) : GoodO P w K mg base 3 "reckoning_of" ["rows"] (sp_reckoning_of K) := by
  obtain ⟨fd, F⟩ := C.says.def_ 11 (d := d_reckoning_of) rfl
  exact ⟨⟨fd, F.ok (k := 2) sc_reckoning_of (fun vs H Q E h => sp1_len vs H Q E h) (fun cdv A outer s H vs Q E hr h => ⟨t_reckoning_of K E, (have hu := hr.units; (pss_cons (ps_set (i := 1) sc_reckoning_of.nd rfl (Or.inl rfl) (pe_callBK (call_maxDf rfl hu) (by rfl) C.n_max (by decide +kernel) (pa_cons (pe_lc2 (own := [("row", 6), ("price", 7)]) (vs1 := [7]) rfl sc_reckoning_of.nd (pi_seq (pv 0)) (blkOk_by (N := n_reckoning_of) (sc := defScope s_reckoning_of) (by decide +kernel)) (by decide) (fun _ _ _ _ _ => (pg_name (i := 6) sc_reckoning_of.nd rfl (Or.inl rfl))) (fun _ _ _ _ _ => pts_nil) (fun _ _ _ _ _ => (pi_seq (pv 6))) (fun _ _ _ _ _ => (pg_name (i := 7) sc_reckoning_of.nd rfl (Or.inl rfl))) (fun _ _ _ _ _ => (pts_one (pt_cmpR op_uNis (pv 7) pe_non (by rfl)))) (fun _ _ _ _ _ => (pv 7))) pa_nil) (pk_cons pe_int pk_nil))) (pss_cons (ps_set (i := 2) sc_reckoning_of.nd rfl (Or.inl rfl) (pe_op op_uShl (pv 1) (pe_op op_uMul pe_int (pe_callB call_uLen (by rfl) C.n_len boot_len (pa_cons (pv 0) pa_nil))))) (pss_cons (ps_set (i := 3) sc_reckoning_of.nd rfl (Or.inl rfl) (pe_fo (ok_without_bars C) (hr.mono (by decide)) (by rfl) (passes_call (takes_of rfl rfl rfl rfl) fun _ _ _ _ h => h) (ha := (pa_cons (pv 0) (pa_cons (pv 2) pa_nil))))) (pss_cons (ps_set (i := 4) sc_reckoning_of.nd rfl (Or.inl rfl) (pe_lst (pa_cons (pe_tup (pa_cons pe_int (pa_cons pe_int (pa_cons pe_int (pa_cons pe_int (pa_cons pe_int (pa_cons pe_int pa_nil))))))) pa_nil))) (pss_cons (ps_for (passes_of rfl) rfl (pi_seq (pv 3)) (pg_name (i := 5) sc_reckoning_of.nd rfl (Or.inl rfl)) (pss_one (ps_expr (pe_bm PySem.F.plainAttrs_list PySem.F.slot_list_append PySem.F.type_list_append mt_append (pv 4) (pa_cons (pe_fo (ok_towers_above C) (hr.mono (by decide)) (by rfl) (passes_call (takes_of rfl rfl rfl rfl) fun _ _ _ _ h => h) (ha := (pa_cons (pv 5) (pa_cons (pe_ix ix_u (pv 4) (pe_un un_neg pe_int) (fun _ _ => rfl)) pa_nil)))) pa_nil))))) (pss_one (ps_ret (pe_mk (ok_Reckoning_init C) C.mk_Reckoning C.g_Reckoning (hr.mono (by decide)) (by rfl) (passes_call (takes_of rfl rfl rfl rfl) fun _ _ _ _ h => h) (ha := (pa_cons (pv 2) (pa_cons (pv 3) (pa_cons (pv 4) pa_nil))))))))))))), read_reckoning_of C.F C.kr h⟩), F.bindsN fun _ _ _ _ _ _ us hl => match us, hl with | [_], _ => rfl⟩, C.g_reckoning_of, F.kp⟩
theorem ok_Yard_reckoning (C : Ct K w mg) : GoodM P w K mg base 4 "Yard" "reckoning" ["self"] (sp_Yard_reckoning K) := by
  obtain ⟨fd, F⟩ := C.says.def_ 28 (d := d_Yard_reckoning) rfl
  exact ⟨⟨fd, F.ok (k := 3) sc_Yard_reckoning (fun vs H Q E h => sp1_len vs H Q E h) (fun cdv A outer s H vs Q E hr h => ⟨t_Yard_reckoning K E, (have hu := hr.units; (pss_cons (ps_if (pt_cmpR op_uIs (pe_fld (pv 0) rfl) pe_non (by rfl)) (pss_one (ps_fld (pv 0) (pe_fo (ok_reckoning_of C) (hr.mono (by decide)) (by rfl) (passes_call (takes_of rfl rfl rfl rfl) fun _ _ _ _ h => h) (ha := (pa_cons (pe_fld (pv 0) rfl) pa_nil))) rfl)) pss_nil) (pss_one (ps_ret (pe_fld (pv 0) rfl))))), read_Yard_reckoning C.F C.kr h⟩), F.bindsN fun _ _ _ _ _ _ us hl => match us, hl with | [_], _ => rfl⟩, C.m_Yard_reckoning, C.F.cl⟩
theorem ok_both_lines (C : Ct K w mg) : GoodO P w K mg base 1 "both_lines" ["way", "prices", "towers", "to_towers", "from_towers"] (sp_both_lines K) := by
  obtain ⟨fd, F⟩ := C.says.def_ 5 (d := d_both_lines) rfl
  exact ⟨⟨fd, F.ok (k := 0) sc_both_lines (fun vs H Q E h => sp5_len vs H Q E h) (fun cdv A outer s H vs Q E hr h => ⟨t_both_lines K E, (have hu := hr.units; (pss_cons (ps_asg (pe_ix (ix_turn C.t__TURNS) (pe_glob (by rfl) C.g__TURNS rfl) (pv 0) (fun _ _ => rfl)) (pg_tup (by rfl) (pgs_cons (pg_name (i := 5) sc_both_lines.nd rfl (Or.inl rfl)) (pgs_cons (pg_name (i := 6) sc_both_lines.nd rfl (Or.inl rfl)) (pgs_cons (pg_name (i := 7) sc_both_lines.nd rfl (Or.inl rfl)) (pgs_cons (pg_name (i := 8) sc_both_lines.nd rfl (Or.inl rfl)) (pgs_cons (pg_name (i := 9) sc_both_lines.nd rfl (Or.inl rfl)) (pgs_cons (pg_name (i := 10) sc_both_lines.nd rfl (Or.inl rfl)) (pgs_cons (pg_name (i := 11) sc_both_lines.nd rfl (Or.inl rfl)) pgs_nil))))))))) (pss_one (ps_ret (pe_tup (pa_cons (pe_op op_uAdd (pe_op op_uAdd (pe_ix ix_u (pv 3) (pv 11) (fun _ _ => rfl)) (pe_ix ix_u (pv 1) (pv 5) (fun _ _ => rfl))) (pe_ix ix_u (pv 4) (pv 11) (fun _ _ => rfl))) (pa_cons (pe_op op_uAdd (pe_op op_uAdd (pe_op op_uAdd (pe_op op_uAdd (pe_ix ix_u (pv 3) (pv 10) (fun _ _ => rfl)) (pe_ix ix_u (pv 1) (pv 6) (fun _ _ => rfl))) (pe_ix ix_u (pv 2) (pv 8) (fun _ _ => rfl))) (pe_ix ix_u (pv 1) (pv 7) (fun _ _ => rfl))) (pe_ix ix_u (pv 4) (pv 9) (fun _ _ => rfl))) pa_nil))))))), read_both_lines C.F h⟩), F.bindsN fun _ _ _ _ _ _ us hl => match us, hl with | [_, _, _, _, _], _ => rfl⟩, C.g_both_lines, F.kp⟩
theorem ok_is_way (C : Ct K w mg) : GoodO P w K mg base 1 "is_way" ["value"] (sp_is_way K) := by
  obtain ⟨fd, F⟩ := C.says.def_ 20 (d := d_is_way) rfl
  exact ⟨⟨fd, F.ok (k := 0) sc_is_way (fun vs H Q E h => sp1_len vs H Q E h) (fun cdv A outer s H vs Q E hr h => ⟨t_is_way K E, (have hu := hr.units; (pss_one (ps_ret (pe_and (pe_callB call_uIsi (by rfl) C.n_isinstance (by decide +kernel) (pa_cons (pv 0) (pa_cons (pe_bltn (v := .ty "str") (by rfl) C.n_str (by decide +kernel) rfl) pa_nil))) (pe_one (pe_cmpR op_uIn (pv 0) (pe_glob (by rfl) C.g_WAYS rfl) (by rfl))))))), read_is_way C.F h⟩), F.bindsN fun _ _ _ _ _ _ us hl => match us, hl with | [_], _ => rfl⟩, C.g_is_way, F.kp⟩
theorem ok_check_way (C : Ct K w mg) : GoodO P w K mg base 3 "check_way" ["way"] (sp_check_way K) := by
  obtain ⟨fd, F⟩ := C.says.def_ 24 (d := d_check_way) rfl
  exact ⟨⟨fd, F.ok (k := 2) sc_check_way (fun vs H Q E h => sp1_len vs H Q E h) (fun cdv A outer s H vs Q E hr h => ⟨t_check_way K E, (have hu := hr.units; (pss_one (ps_if (pt_not (pt_val (pe_fo (ok_is_way C) (hr.mono (by decide)) (by rfl) (passes_call (takes_of rfl rfl rfl rfl) fun _ _ _ _ h => h) (ha := (pa_cons (pv 0) pa_nil))))) (pss_one (ps_rse (okx_InvalidWay C) (hr.mono (by decide)) rfl (takes_of rfl rfl rfl rfl) (by rfl) (pa_cons (pv 0) pa_nil))) pss_nil))), read_check_way C.F h⟩), F.bindsN fun _ _ _ _ _ _ us hl => match us, hl with | [_], _ => rfl⟩, C.g_check_way, F.kp⟩
theorem ok_third (C : Ct K w mg) : GoodO P w K mg base 4 "third" ["way"] (sp_third K) := by
  obtain ⟨fd, F⟩ := C.says.def_ 23 (d := d_third) rfl
  exact ⟨⟨fd, F.ok (k := 3) sc_third (fun vs H Q E h => sp1_len vs H Q E h) (fun cdv A outer s H vs Q E hr h => ⟨t_third K E, (have hu := hr.units; (pss_cons (ps_expr (pe_fo (ok_check_way C) (hr.mono (by decide)) (by rfl) (passes_call (takes_of rfl rfl rfl rfl) fun _ _ _ _ h => h) (ha := (pa_cons (pv 0) pa_nil)))) (pss_one (ps_ret (pe_ix (ix_third C.t_THIRDS) (pe_glob (by rfl) C.g_THIRDS rfl) (pv 0) (fun _ _ => rfl)))))), read_third C.F h⟩), F.bindsN fun _ _ _ _ _ _ us hl => match us, hl with | [_], _ => rfl⟩, C.g_third, F.kp⟩
theorem ok__bring_home (C : Ct K w mg) : GoodO P w K mg base 5 "_bring_home" ["reckoning", "costs", "here", "goal", "crate", "to_towers", "ahead"] (sp__bring_home K) := by
  obtain ⟨fd, F⟩ := C.says.def_ 46 (d := d__bring_home) rfl
  exact ⟨⟨fd, F.ok (k := 4) sc__bring_home (fun vs H Q E h => sp7_len vs H Q E h) (fun cdv A outer s H vs Q E hr h => ⟨t__bring_home K E, (have hu := hr.units; (pss_cons (ps_set (i := 7) sc__bring_home.nd rfl (Or.inl rfl) (pe_ix ix_u (pv 3) (pv 4) (fun _ _ => rfl))) (pss_cons (ps_if (pt_cmpR (op_uEq hu) (pv 2) (pv 7) (by rfl)) (pss_cons (ps_asg (pe_callB (call_min2 rfl) (by rfl) C.n_min (by decide +kernel) (pa_cons (pe_dget (Nat.lt_of_le_of_lt (Nat.add_le_add_left (by decide) _) hu) (pv 1) (pv 2) (fun _ _ => rfl)) (pa_cons (pv 6) pa_nil))) (pg_sub (pv 1) (pv 2) (set_dict (Nat.lt_of_le_of_lt (Nat.add_le_add_left (by decide) _) hu)))) (pss_one ps_retN)) pss_nil) (pss_cons (ps_set (i := 8) sc__bring_home.nd rfl (Or.inl rfl) (pe_op op_uSub (pe_op op_uSub (pe_callB call_uLen (by rfl) C.n_len boot_len (pa_cons (pv 3) pa_nil)) pe_int) (pv 4))) (pss_cons (ps_asg (pe_fo (ok_both_lines C) (hr.mono (by decide)) (by rfl) (passes_call (takes_of rfl rfl rfl rfl) fun _ _ _ _ h => h) (ha := (pa_cons (pe_op op_uAdd (pv 2) (pv 7)) (pa_cons (pe_ix ix_u (pe_fld (pv 0) rfl) (pv 8) (fun _ _ => rfl)) (pa_cons (pe_ix ix_u (pe_fld (pv 0) rfl) (pv 8) (fun _ _ => rfl)) (pa_cons (pv 5) (pa_cons (pe_tup (pa_cons pe_int (pa_cons pe_int (pa_cons pe_int pa_nil)))) pa_nil))))))) (pg_tup (by rfl) (pgs_cons (pg_name (i := 9) sc__bring_home.nd rfl (Or.inl rfl)) (pgs_cons (pg_name (i := 10) sc__bring_home.nd rfl (Or.inl rfl)) pgs_nil)))) (pss_cons (ps_set (i := 11) sc__bring_home.nd rfl (Or.inl rfl) (pe_fo (ok_third C) (hr.mono (by decide)) (by rfl) (passes_call (takes_of rfl rfl rfl rfl) fun _ _ _ _ h => h) (ha := (pa_cons (pe_op op_uAdd (pv 2) (pv 7)) pa_nil)))) (pss_cons (ps_asg (pe_callB (call_min2 rfl) (by rfl) C.n_min (by decide +kernel) (pa_cons (pe_dget (Nat.lt_of_le_of_lt (Nat.add_le_add_left (by decide) _) hu) (pv 1) (pv 11) (fun _ _ => rfl)) (pa_cons (pe_op op_uAdd (pv 6) (pv 9)) pa_nil))) (pg_sub (pv 1) (pv 11) (set_dict (Nat.lt_of_le_of_lt (Nat.add_le_add_left (by decide) _) hu)))) (pss_one (ps_asg (pe_callB (call_min2 rfl) (by rfl) C.n_min (by decide +kernel) (pa_cons (pe_dget (Nat.lt_of_le_of_lt (Nat.add_le_add_left (by decide) _) hu) (pv 1) (pv 2) (fun _ _ => rfl)) (pa_cons (pe_op op_uAdd (pv 6) (pv 10)) pa_nil))) (pg_sub (pv 1) (pv 2) (set_dict (Nat.lt_of_le_of_lt (Nat.add_le_add_left (by decide) _) hu)))))))))))), read__bring_home C.F C.kr h⟩), F.bindsN fun _ _ _ _ _ _ us hl => match us, hl with | [_, _, _, _, _, _, _], _ => rfl⟩, C.g__bring_home, F.kp⟩
theorem ok_check_both (C : Ct K w mg) : GoodO P w K mg base 6 "check_both" ["yard", "start", "goal"] (sp_check_both K) := by
  obtain ⟨fd, F⟩ := C.says.def_ 33 (d := d_check_both) rfl
  exact ⟨⟨fd, F.ok (k := 5) sc_check_both (fun vs H Q E h => sp3_len vs H Q E h) (fun cdv A outer s H vs Q E hr h => ⟨t_check_both K E, (have hu := hr.units; (pss_cons (ps_expr (pe_fo (ok_check_arrangement C) (hr.mono (by decide)) (by rfl) (passes_call (takes_of rfl rfl rfl rfl) fun _ _ _ _ h => h) (ha := (pa_cons (pv 0) (pa_cons (pv 1) pa_nil))))) (pss_one (ps_expr (pe_fo (ok_check_arrangement C) (hr.mono (by decide)) (by rfl) (passes_call (takes_of rfl rfl rfl rfl) fun _ _ _ _ h => h) (ha := (pa_cons (pv 0) (pa_cons (pv 2) pa_nil)))))))), read_check_both C.F h⟩), F.bindsN fun _ _ _ _ _ _ us hl => match us, hl with | [_, _, _], _ => rfl⟩, C.g_check_both, F.kp⟩
theorem ok_first_apart (C : Ct K w mg) : GoodO P w K mg base 1 "first_apart" ["starts", "goals"] (sp_first_apart K) := by
  obtain ⟨fd, F⟩ := C.says.def_ 19 (d := d_first_apart) rfl
  exact ⟨⟨fd, F.ok (k := 0) sc_first_apart (fun vs H Q E h => sp2_len vs H Q E h) (fun cdv A outer s H vs Q E hr h => ⟨t_first_apart K E, (have hu := hr.units; (pss_cons (ps_for (passes_of rfl) rfl (pi_enumU (by rfl) C.n_enumerate (pa_cons (pv 0) pa_nil)) (pg_tup (by rfl) (pgs_cons (pg_name (i := 2) sc_first_apart.nd rfl (Or.inr rfl)) (pgs_cons (pg_name (i := 3) sc_first_apart.nd rfl (Or.inl rfl)) pgs_nil))) (pss_one (ps_if (PW.pt (pw_and (pt_cmpR (op_uNe hu) (pv 3) (pe_ix ix_u (pv 1) (pv 2) (fun _ _ => rfl)) (by rfl)) (pw_and1 (pt_not (pt_val (pe_callB (cr_any rfl) (by rfl) C.n_any (by decide +kernel) (pa_cons (pe_lc (own := [("place", 4)]) (g := (gName 4)) (tt := tYes) rfl sc_first_apart.nd (pi_str (pv 3)) (blkOk_by (N := n_first_apart) (sc := defScope s_first_apart) (by decide +kernel)) (fun _ _ _ _ _ => (pg_name (i := 4) sc_first_apart.nd rfl (Or.inl rfl))) (fun _ _ _ _ _ => pts_nil) (fun _ _ _ _ _ => (pe_cmpR op_uIn (pv 4) (pe_ix ix_u (pv 1) (pv 2) (fun _ _ => rfl)) (by rfl)))) pa_nil))))))) (pss_one (ps_ret (pv 2))) pss_nil))) (pss_one (ps_ret pe_non)))), read_first_apart C.F h⟩), F.bindsN fun _ _ _ _ _ _ us hl => match us, hl with | [_, _], _ => rfl⟩, C.g_first_apart, F.kp⟩
theorem ok_from_each_tower (C : Ct K w mg) : GoodO P w K mg base 1 "from_each_tower" ["towers"] (sp_from_each_tower K) := by
  obtain ⟨fd, F⟩ := C.says.def_ 10 (d := d_from_each_tower) rfl
  exact ⟨⟨fd, F.ok (k := 0) sc_from_each_tower (fun vs H Q E h => sp1_len vs H Q E h) (fun cdv A outer s H vs Q E hr h => ⟨t_from_each_tower K E, (have hu := hr.units; (pss_cons (ps_asg (pv 0) (pg_tup (by rfl) (pgs_cons (pg_name (i := 1) sc_from_each_tower.nd rfl (Or.inl rfl)) (pgs_cons (pg_name (i := 2) sc_from_each_tower.nd rfl (Or.inl rfl)) (pgs_cons (pg_name (i := 3) sc_from_each_tower.nd rfl (Or.inl rfl)) (pgs_cons (pg_name (i := 4) sc_from_each_tower.nd rfl (Or.inl rfl)) (pgs_cons (pg_name (i := 5) sc_from_each_tower.nd rfl (Or.inl rfl)) (pgs_cons (pg_name (i := 6) sc_from_each_tower.nd rfl (Or.inl rfl)) pgs_nil)))))))) (pss_one (ps_ret (pe_disp (pps_cons pe_str (pe_tup (pa_cons pe_int (pa_cons (pv 1) (pa_cons (pv 2) pa_nil)))) (pps_cons pe_str (pe_tup (pa_cons (pv 3) (pa_cons pe_int (pa_cons (pv 4) pa_nil)))) (pps_cons pe_str (pe_tup (pa_cons (pv 5) (pa_cons (pv 6) (pa_cons pe_int pa_nil)))) pps_nil))) rfl rfl (by simp) (by simp)))))), read_from_each_tower C.F h⟩), F.bindsN fun _ _ _ _ _ _ us hl => match us, hl with | [_], _ => rfl⟩, C.g_from_each_tower, F.kp⟩
theorem ok_home_costs (C : Ct K w mg) : GoodO P w K mg base 7 "home_costs" ["yard", "start", "goal"] (sp_home_costs K) := by
  obtain ⟨fd, F⟩ := C.says.def_ 45 (d := d_home_costs) rfl
  exact ⟨⟨fd, F.ok (k := 6) sc_home_costs (fun vs H Q E h => sp3_len vs H Q E h) (fun cdv A outer s H vs Q E hr h => ⟨t_home_costs K E, (have hu := hr.units; (pss_cons (ps_expr (pe_fo (ok_check_both C) (hr.mono (by decide)) (by rfl) (passes_call (takes_of rfl rfl rfl rfl) fun _ _ _ _ h => h) (ha := (pa_cons (pv 0) (pa_cons (pv 1) (pa_cons (pv 2) pa_nil)))))) (pss_cons (ps_set (i := 3) sc_home_costs.nd rfl (Or.inr rfl) (Exists.elim (ok_Yard_reckoning C).fn fun _ z => pe_meth0 (pv 0) (ok_Yard_reckoning (P := P) (base := base) C).cl (ok_Yard_reckoning (P := P) (base := base) C).mt z.1 (hr.mono (by decide)) z.2 .nil (passes_call (takes_of rfl rfl rfl rfl) fun _ _ _ _ h => h))) (pss_cons (ps_set (i := 4) sc_home_costs.nd rfl (Or.inl rfl) (pe_fo (ok_first_apart C) (hr.mono (by decide)) (by rfl) (passes_call (takes_of rfl rfl rfl rfl) fun _ _ _ _ h => h) (ha := (pa_cons (pv 1) (pa_cons (pv 2) pa_nil))))) (pss_cons (ps_if (pt_cmpR op_uIs (pv 4) pe_non (by rfl)) (pss_one (ps_ret (pe_op op_uMul (pe_lst (pa_cons pe_int pa_nil)) (pe_op op_uAdd (pe_lenY (ok_Yard_len C) (hr.mono (by decide)) (by rfl) C.n_len (pa_cons (pv 0) pa_nil)) pe_int)))) pss_nil) (pss_cons (ps_set (i := 5) sc_home_costs.nd rfl (Or.inl rfl) (pe_ix ix_u (Exists.elim (ok_Reckoning_to_towers C).fn fun _ z => pe_meth (pv 3) (ok_Reckoning_to_towers (P := P) (base := base) C).cl (ok_Reckoning_to_towers (P := P) (base := base) C).mt z.1 (hr.mono (by decide)) z.2 .nil (passes_call (takes_of rfl rfl rfl rfl) fun _ _ _ _ h => h) (pa_cons (pe_slice sl_u (pv 1) (po_some (pe_op op_uAdd (pv 4) pe_int)) po_none) pa_nil)) (pe_un un_neg pe_int) (fun _ _ => rfl))) (pss_cons (ps_setDc (i := 7) (own := [("place", 6)]) (g := (gName 6)) (tt := tYes) rfl sc_home_costs.nd rfl rfl (by exact sw_dict rfl rfl rfl (by decide +kernel)) (pi_seq (pe_glob (by rfl) C.g_PLACES rfl)) (blkOk_by (N := n_home_costs) (sc := defScope s_home_costs) (by decide +kernel)) (fun _ _ _ _ _ => (pg_name (i := 6) sc_home_costs.nd rfl (Or.inl rfl))) (fun _ _ _ _ _ => pts_nil) (fun _ _ _ _ _ => (pv 6)) (fun _ _ _ _ _ => (pe_fld (pv 3) rfl))) (pss_cons (ps_expr (pe_fo (ok__bring_home C) (hr.mono (by decide)) (by rfl) (passes_call (takes_of rfl rfl rfl rfl) fun _ _ _ _ h => h) (ha := (pa_cons (pv 3) (pa_cons (pv 7) (pa_cons (pe_ix ix_u (pv 1) (pv 4) (fun _ _ => rfl)) (pa_cons (pv 2) (pa_cons (pv 4) (pa_cons (pv 5) (pa_cons pe_int pa_nil)))))))))) (pss_cons (ps_set (i := 8) sc_home_costs.nd rfl (Or.inl rfl) (pe_op op_uAdd (pe_op op_uMul (pe_lst (pa_cons pe_int pa_nil)) (pe_op op_uAdd (pv 4) pe_int)) (pe_lst (pa_cons (pe_callB (cr_min rfl) (by rfl) C.n_min (by decide +kernel) (pa_cons (pe_listVals rfl (by rfl) C.n_list (pv 7)) pa_nil)) pa_nil)))) (pss_cons (ps_for (passes_of rfl) rfl (pi_range2 (by rfl) C.n_range (pa_cons (pe_op op_uAdd (pv 4) pe_int) (pa_cons (pe_lenY (ok_Yard_len C) (hr.mono (by decide)) (by rfl) C.n_len (pa_cons (pv 0) pa_nil)) pa_nil))) (pg_name (i := 9) sc_home_costs.nd rfl (Or.inl rfl)) (pss_cons (ps_set (i := 10) sc_home_costs.nd rfl (Or.inl rfl) (pv 7)) (pss_cons (ps_setDc (i := 7) (own := [("place", 6)]) (g := (gName 6)) (tt := tYes) rfl sc_home_costs.nd rfl rfl (by exact sw_dict rfl rfl rfl (by decide +kernel)) (pi_seq (pe_glob (by rfl) C.g_PLACES rfl)) (blkOk_by (N := n_home_costs) (sc := defScope s_home_costs) (by decide +kernel)) (fun _ _ _ _ _ => (pg_name (i := 6) sc_home_costs.nd rfl (Or.inl rfl))) (fun _ _ _ _ _ => pts_nil) (fun _ _ _ _ _ => (pv 6)) (fun _ _ _ _ _ => (pe_fld (pv 3) rfl))) (pss_cons (ps_set (i := 11) sc_home_costs.nd rfl (Or.inl rfl) (pe_fo (ok_from_each_tower C) (hr.mono (by decide)) (by rfl) (passes_call (takes_of rfl rfl rfl rfl) fun _ _ _ _ h => h) (ha := (pa_cons (pe_ix ix_u (pe_fld (pv 3) rfl) (pe_op op_uSub (pe_op op_uSub (pe_lenY (ok_Yard_len C) (hr.mono (by decide)) (by rfl) C.n_len (pa_cons (pv 0) pa_nil)) pe_int) (pv 9)) (fun _ _ => rfl)) pa_nil)))) (pss_cons (ps_for (passes_of rfl) rfl (pi_seq (pe_glob (by rfl) C.g_PLACES rfl)) (pg_name (i := 6) sc_home_costs.nd rfl (Or.inl rfl)) (pss_one (ps_expr (pe_fo (ok__bring_home C) (hr.mono (by decide)) (by rfl) (passes_call (takes_of rfl rfl rfl rfl) fun _ _ _ _ h => h) (ha := (pa_cons (pv 3) (pa_cons (pv 7) (pa_cons (pv 6) (pa_cons (pv 2) (pa_cons (pv 9) (pa_cons (pe_dget (Nat.lt_of_le_of_lt (Nat.add_le_add_left (by decide) _) hu) (pv 11) (pv 6) (fun _ _ => rfl)) (pa_cons (pe_dget (Nat.lt_of_le_of_lt (Nat.add_le_add_left (by decide) _) hu) (pv 10) (pv 6) (fun _ _ => rfl)) pa_nil)))))))))))) (pss_one (ps_expr (pe_bm PySem.F.plainAttrs_list PySem.F.slot_list_append PySem.F.type_list_append mt_append (pv 8) (pa_cons (pe_callB (cr_min rfl) (by rfl) C.n_min (by decide +kernel) (pa_cons (pe_listVals rfl (by rfl) C.n_list (pv 7)) pa_nil)) pa_nil))))))))) (pss_one (ps_ret (pe_lc (own := [("cost", 12)]) (g := (gName 12)) (tt := tYes) rfl sc_home_costs.nd (pi_seq (pv 8)) (blkOk_by (N := n_home_costs) (sc := defScope s_home_costs) (by decide +kernel)) (fun _ _ _ _ _ => (pg_name (i := 12) sc_home_costs.nd rfl (Or.inl rfl))) (fun _ _ _ _ _ => pts_nil) (fun _ _ _ _ _ => (Exists.elim (ok_Reckoning_told C).fn fun _ z => pe_meth (pv 3) (ok_Reckoning_told (P := P) (base := base) C).cl (ok_Reckoning_told (P := P) (base := base) C).mt z.1 (hr.mono (by decide)) z.2 .nil passL (pa_cons (pv 12) pa_nil)))))))))))))))), read_home_costs C.F C.kr h⟩), F.bindsN fun _ _ _ _ _ _ us hl => match us, hl with | [_, _, _], _ => rfl⟩, C.g_home_costs, F.kp⟩
theorem ok_is_integer (C : Ct K w mg) : GoodO P w K mg base 1 "is_integer" ["value"] (sp_is_integer K) := by
  obtain ⟨fd, F⟩ := C.says.def_ 22 (d := d_is_integer) rfl
  exact ⟨⟨fd, F.ok (k := 0) sc_is_integer (fun vs H Q E h => sp1_len vs H Q E h) (fun cdv A outer s H vs Q E hr h => ⟨t_is_integer K E, (have hu := hr.units; (pss_one (ps_ret (pe_and (pe_callB call_uIsi (by rfl) C.n_isinstance (by decide +kernel) (pa_cons (pv 0) (pa_cons (pe_bltn (v := .ty "int") (by rfl) C.n_int (by decide +kernel) rfl) pa_nil))) (pe_one (pe_not (pe_callB call_uIsi (by rfl) C.n_isinstance (by decide +kernel) (pa_cons (pv 0) (pa_cons (pe_bltn (v := .ty "bool") (by rfl) C.n_bool (by decide +kernel) rfl) pa_nil))))))))), read_is_integer C.F h⟩), F.bindsN fun _ _ _ _ _ _ us hl => match us, hl with | [_], _ => rfl⟩, C.g_is_integer, F.kp⟩
theorem ok_home_within (C : Ct K w mg) : GoodO P w K mg base 8 "home_within" ["yard", "start", "goal", "cost"] (sp_home_within K) := by
  obtain ⟨fd, F⟩ := C.says.def_ 47 (d := d_home_within) rfl
  exact ⟨⟨fd, F.ok (k := 7) sc_home_within (fun vs H Q E h => sp4_len vs H Q E h) (fun cdv A outer s H vs Q E hr h => ⟨t_home_within K E, (have hu := hr.units; (pss_cons (ps_set (i := 4) sc_home_within.nd rfl (Or.inl rfl) (pe_fo (ok_home_costs C) (hr.mono (by decide)) (by rfl) (passes_call (takes_of rfl rfl rfl rfl) fun _ _ _ _ h => h) (ha := (pa_cons (pv 0) (pa_cons (pv 1) (pa_cons (pv 2) pa_nil)))))) (pss_cons (ps_if (PW.pt (pw_or (pt_not (pt_val (pe_fo (ok_is_integer C) (hr.mono (by decide)) (by rfl) (passes_call (takes_of rfl rfl rfl rfl) fun _ _ _ _ h => h) (ha := (pa_cons (pv 3) pa_nil))))) (pw_or1 (pt_cmpR op_uLt (pv 3) pe_int (by rfl))))) (pss_one (ps_rse (okx_InvalidCount C) (hr.mono (by decide)) rfl (takes_of rfl rfl rfl rfl) (by rfl) (pa_cons (pv 3) pa_nil))) pss_nil) (pss_one (ps_ret (pe_op op_uSub (pe_callB call_uLen (by rfl) C.n_len boot_len (pa_cons (pe_lc (own := [("least", 5)]) (g := (gName 5)) (tt := (tAnd (tTest (tOp uNis (tVar 5) (tC .non))) (tTest (tOp uLe (tVar 5) (tVar 3))))) rfl sc_home_within.nd (pi_seq (pv 4)) (blkOk_by (N := n_home_within) (sc := defScope s_home_within) (by decide +kernel)) (fun _ _ _ _ _ => (pg_name (i := 5) sc_home_within.nd rfl (Or.inl rfl))) (fun _ _ _ _ _ => (pts_one (PW.pt (pw_and (pt_cmpR op_uNis (pv 5) pe_non (by rfl)) (pw_and1 (pt_cmpR op_uLe (pv 5) (pv 3) (by rfl))))))) (fun _ _ _ _ _ => (pv 5))) pa_nil)) pe_int)))))), read_home_within C.F h⟩), F.bindsN fun _ _ _ _ _ _ us hl => match us, hl with | [_, _, _, _], _ => rfl⟩, C.g_home_within, F.kp⟩
theorem ok_how_many_fit (C : Ct K w mg) : GoodO P w K mg base 6 "how_many_fit" ["yard", "pattern"] (sp_how_many_fit K) := by
  obtain ⟨fd, F⟩ := C.says.def_ 37 (d := d_how_many_fit) rfl
  exact ⟨⟨fd, F.ok (k := 5) sc_how_many_fit (fun vs H Q E h => sp2_len vs H Q E h) (fun cdv A outer s H vs Q E hr h => ⟨t_how_many_fit K E, (have hu := hr.units; (pss_cons (ps_expr (pe_fo (ok_check_pattern C) (hr.mono (by decide)) (by rfl) (passes_call (takes_of rfl rfl rfl rfl) fun _ _ _ _ h => h) (ha := (pa_cons (pv 0) (pa_cons (pv 1) pa_nil))))) (pss_cons (ps_set (i := 2) sc_how_many_fit.nd rfl (Or.inl rfl) pe_int) (pss_cons (ps_for (passes_of rfl) rfl (pi_seq (pv 1)) (pg_name (i := 3) sc_how_many_fit.nd rfl (Or.inl rfl)) (pss_one (ps_set (i := 2) sc_how_many_fit.nd rfl (Or.inl rfl) (pe_op op_uMul (pv 2) (pe_callB call_uLen (by rfl) C.n_len boot_len (pa_cons (pv 3) pa_nil)))))) (pss_one (ps_ret (pv 2))))))), read_how_many_fit C.F C.kp h⟩), F.bindsN fun _ _ _ _ _ _ us hl => match us, hl with | [_, _], _ => rfl⟩, C.g_how_many_fit, F.kp⟩
theorem ok_how_many_nearest (C : Ct K w mg) : GoodO P w K mg base 6 "how_many_nearest" ["yard", "start", "pattern"] (sp_how_many_nearest K) := by
  obtain ⟨fd, F⟩ := C.says.def_ 43 (d := d_how_many_nearest) rfl
  exact ⟨⟨fd, F.ok (k := 5) sc_how_many_nearest (fun vs H Q E h => sp3_len vs H Q E h) (fun cdv A outer s H vs Q E hr h => ⟨t_how_many_nearest K E, (have hu := hr.units; (pss_cons (ps_expr (pe_fo (ok_check_arrangement C) (hr.mono (by decide)) (by rfl) (passes_call (takes_of rfl rfl rfl rfl) fun _ _ _ _ h => h) (ha := (pa_cons (pv 0) (pa_cons (pv 1) pa_nil))))) (pss_cons (ps_expr (pe_fo (ok_check_pattern C) (hr.mono (by decide)) (by rfl) (passes_call (takes_of rfl rfl rfl rfl) fun _ _ _ _ h => h) (ha := (pa_cons (pv 0) (pa_cons (pv 2) pa_nil))))) (pss_cons (ps_set (i := 3) sc_how_many_nearest.nd rfl (Or.inl rfl) (Exists.elim (ok_Yard_reckoning C).fn fun _ z => pe_meth0 (pv 0) (ok_Yard_reckoning (P := P) (base := base) C).cl (ok_Yard_reckoning (P := P) (base := base) C).mt z.1 (hr.mono (by decide)) z.2 .nil (passes_call (takes_of rfl rfl rfl rfl) fun _ _ _ _ h => h))) (pss_cons ps_never (pss_one ps_never)))))), read_how_many_nearest C.F C.kp h⟩), F.bindsN fun _ _ _ _ _ _ us hl => match us, hl with | [_, _, _], _ => rfl⟩, C.g_how_many_nearest, F.kp⟩
theorem ok_nearest (C : Ct K w mg) : GoodO P w K mg base 6 "nearest" ["yard", "start", "pattern"] (sp_nearest K) := by
  obtain ⟨fd, F⟩ := C.says.def_ 41 (d := d_nearest) rfl
  exact ⟨⟨fd, F.ok (k := 5) sc_nearest (fun vs H Q E h => sp3_len vs H Q E h) (fun cdv A outer s H vs Q E hr h => ⟨t_nearest K E, (have hu := hr.units; (pss_cons (ps_expr (pe_fo (ok_check_arrangement C) (hr.mono (by decide)) (by rfl) (passes_call (takes_of rfl rfl rfl rfl) fun _ _ _ _ h => h) (ha := (pa_cons (pv 0) (pa_cons (pv 1) pa_nil))))) (pss_cons (ps_expr (pe_fo (ok_check_pattern C) (hr.mono (by decide)) (by rfl) (passes_call (takes_of rfl rfl rfl rfl) fun _ _ _ _ h => h) (ha := (pa_cons (pv 0) (pa_cons (pv 2) pa_nil))))) (pss_one ps_never)))), read_nearest C.F C.kp h⟩), F.bindsN fun _ _ _ _ _ _ us hl => match us, hl with | [_, _, _], _ => rfl⟩, C.g_nearest, F.kp⟩
theorem ok_nearest_start (C : Ct K w mg) : GoodO P w K mg base 6 "nearest_start" ["yard", "pattern", "goal"] (sp_nearest_start K) := by
  obtain ⟨fd, F⟩ := C.says.def_ 42 (d := d_nearest_start) rfl
  exact ⟨⟨fd, F.ok (k := 5) sc_nearest_start (fun vs H Q E h => sp3_len vs H Q E h) (fun cdv A outer s H vs Q E hr h => ⟨t_nearest_start K E, (have hu := hr.units; (pss_cons (ps_expr (pe_fo (ok_check_pattern C) (hr.mono (by decide)) (by rfl) (passes_call (takes_of rfl rfl rfl rfl) fun _ _ _ _ h => h) (ha := (pa_cons (pv 0) (pa_cons (pv 1) pa_nil))))) (pss_cons (ps_expr (pe_fo (ok_check_arrangement C) (hr.mono (by decide)) (by rfl) (passes_call (takes_of rfl rfl rfl rfl) fun _ _ _ _ h => h) (ha := (pa_cons (pv 0) (pa_cons (pv 2) pa_nil))))) (pss_one ps_never)))), read_nearest_start C.F C.kp h⟩), F.bindsN fun _ _ _ _ _ _ us hl => match us, hl with | [_, _, _], _ => rfl⟩, C.g_nearest_start, F.kp⟩
theorem ok_turned (C : Ct K w mg) : GoodO P w K mg base 1 "turned" ["six"] (sp_turned K) := by
  obtain ⟨fd, F⟩ := C.says.def_ 9 (d := d_turned) rfl
  exact ⟨⟨fd, F.ok (k := 0) sc_turned (fun vs H Q E h => sp1_len vs H Q E h) (fun cdv A outer s H vs Q E hr h => ⟨t_turned K E, (have hu := hr.units; (pss_cons (ps_asg (pv 0) (pg_tup (by rfl) (pgs_cons (pg_name (i := 1) sc_turned.nd rfl (Or.inl rfl)) (pgs_cons (pg_name (i := 2) sc_turned.nd rfl (Or.inl rfl)) (pgs_cons (pg_name (i := 3) sc_turned.nd rfl (Or.inl rfl)) (pgs_cons (pg_name (i := 4) sc_turned.nd rfl (Or.inl rfl)) (pgs_cons (pg_name (i := 5) sc_turned.nd rfl (Or.inl rfl)) (pgs_cons (pg_name (i := 6) sc_turned.nd rfl (Or.inl rfl)) pgs_nil)))))))) (pss_one (ps_ret (pe_tup (pa_cons (pv 3) (pa_cons (pv 5) (pa_cons (pv 1) (pa_cons (pv 6) (pa_cons (pv 2) (pa_cons (pv 4) pa_nil))))))))))), read_turned C.F h⟩), F.bindsN fun _ _ _ _ _ _ us hl => match us, hl with | [_], _ => rfl⟩, C.g_turned, F.kp⟩
theorem ok_Reckoning_backwards (C : Ct K w mg) : GoodM P w K mg base 3 "Reckoning" "backwards" ["self"] (sp_Reckoning_backwards K) := by
  obtain ⟨fd, F⟩ := C.says.def_ 14 (d := d_Reckoning_backwards) rfl
  exact ⟨⟨fd, F.ok (k := 2) sc_Reckoning_backwards (fun vs H Q E h => sp1_len vs H Q E h) (fun cdv A outer s H vs Q E hr h => ⟨t_Reckoning_backwards K E, (have hu := hr.units; (pss_cons (ps_if (pt_cmpR op_uIs (pe_fld (pv 0) rfl) pe_non (by rfl)) (pss_cons (ps_setLc (i := 1) (own := [("six", 2)]) (g := (gName 2)) (tt := tYes) rfl sc_Reckoning_backwards.nd rfl rfl (by exact sw_true rfl rfl rfl (by decide +kernel)) (pi_seq (pe_fld (pv 0) rfl)) (blkOk_by (N := n_Reckoning_backwards) (sc := defScope s_Reckoning_backwards) (by decide +kernel)) (fun _ _ _ _ _ => (pg_name (i := 2) sc_Reckoning_backwards.nd rfl (Or.inl rfl))) (fun _ _ _ _ _ => pts_nil) (fun _ _ _ _ _ => (pe_fo (ok_turned C) (hr.mono (by decide)) (by rfl) passL (ha := (pa_cons (pv 2) pa_nil))))) (pss_one (ps_fld (pv 0) (pe_mk (ok_Reckoning_init C) C.mk_Reckoning C.g_Reckoning (hr.mono (by decide)) (by rfl) (passes_call (takes_of rfl rfl rfl rfl) fun _ _ _ _ h => h) (ha := (pa_cons (pe_fld (pv 0) rfl) (pa_cons (pv 1) (pa_cons (pe_lc (own := [("six", 2)]) (g := (gName 2)) (tt := tYes) rfl sc_Reckoning_backwards.nd (pi_seq (pe_fld (pv 0) rfl)) (blkOk_by (N := n_Reckoning_backwards) (sc := defScope s_Reckoning_backwards) (by decide +kernel)) (fun _ _ _ _ _ => (pg_name (i := 2) sc_Reckoning_backwards.nd rfl (Or.inl rfl))) (fun _ _ _ _ _ => pts_nil) (fun _ _ _ _ _ => (pe_fo (ok_turned C) (hr.mono (by decide)) (by rfl) passL (ha := (pa_cons (pv 2) pa_nil))))) pa_nil))))) rfl))) pss_nil) (pss_one (ps_ret (pe_fld (pv 0) rfl))))), read_Reckoning_backwards C.F C.kr h⟩), F.bindsN fun _ _ _ _ _ _ us hl => match us, hl with | [_], _ => rfl⟩, C.m_Reckoning_backwards, C.kr.cl⟩
theorem ok_Reckoning_from_towers (C : Ct K w mg) : GoodM P w K mg base 4 "Reckoning" "from_towers" ["self", "goals"] (sp_Reckoning_from_towers K) := by
  obtain ⟨fd, F⟩ := C.says.def_ 16 (d := d_Reckoning_from_towers) rfl
  exact ⟨⟨fd, F.ok (k := 3) sc_Reckoning_from_towers (fun vs H Q E h => sp2_len vs H Q E h) (fun cdv A outer s H vs Q E hr h => ⟨t_Reckoning_from_towers K E, (have hu := hr.units; (pss_one (ps_ret (Exists.elim (ok_Reckoning_to_towers C).fn fun _ z => pe_meth (Exists.elim (ok_Reckoning_backwards C).fn fun _ z => pe_meth0 (pv 0) (ok_Reckoning_backwards (P := P) (base := base) C).cl (ok_Reckoning_backwards (P := P) (base := base) C).mt z.1 (hr.mono (by decide)) z.2 .nil (passes_call (takes_of rfl rfl rfl rfl) fun _ _ _ _ h => h)) (ok_Reckoning_to_towers (P := P) (base := base) C).cl (ok_Reckoning_to_towers (P := P) (base := base) C).mt z.1 (hr.mono (by decide)) z.2 .nil (passes_call (takes_of rfl rfl rfl rfl) fun _ _ _ _ h => h) (pa_cons (pv 1) pa_nil))))), read_Reckoning_from_towers C.F C.kr h⟩), F.bindsN fun _ _ _ _ _ _ us hl => match us, hl with | [_, _], _ => rfl⟩, C.m_Reckoning_from_towers, C.kr.cl⟩
theorem ok_Reckoning_cheapest (C : Ct K w mg) : GoodM P w K mg base 5 "Reckoning" "cheapest" ["self", "starts", "goals"] (sp_Reckoning_cheapest K) := by
  obtain ⟨fd, F⟩ := C.says.def_ 17 (d := d_Reckoning_cheapest) rfl
  exact ⟨⟨fd, F.ok (k := 4) sc_Reckoning_cheapest (fun vs H Q E h => sp3_len vs H Q E h) (fun cdv A outer s H vs Q E hr h => ⟨t_Reckoning_cheapest K E, (have hu := hr.units; (pss_cons (ps_set (i := 3) sc_Reckoning_cheapest.nd rfl (Or.inr rfl) (pe_fo (ok_first_apart C) (hr.mono (by decide)) (by rfl) (passes_call (takes_of rfl rfl rfl rfl) fun _ _ _ _ h => h) (ha := (pa_cons (pv 1) (pa_cons (pv 2) pa_nil))))) (pss_cons (ps_if (pt_cmpR op_uIs (pv 3) pe_non (by rfl)) (pss_one (ps_ret pe_int)) pss_nil) (pss_cons (ps_set (i := 4) sc_Reckoning_cheapest.nd rfl (Or.inl rfl) (pe_op op_uSub (pe_op op_uSub (pe_callB call_uLen (by rfl) C.n_len boot_len (pa_cons (pv 1) pa_nil)) pe_int) (pv 3))) (pss_cons (ps_asg (pe_tup (pa_cons (pe_ix ix_u (pe_fld (pv 0) rfl) (pv 4) (fun _ _ => rfl)) (pa_cons (pe_ix ix_u (pe_fld (pv 0) rfl) (pv 4) (fun _ _ => rfl)) pa_nil))) (pg_tup (by rfl) (pgs_cons (pg_name (i := 5) sc_Reckoning_cheapest.nd rfl (Or.inr rfl)) (pgs_cons (pg_name (i := 6) sc_Reckoning_cheapest.nd rfl (Or.inr rfl)) pgs_nil)))) (pss_cons (ps_set (i := 7) sc_Reckoning_cheapest.nd rfl (Or.inr rfl) (pe_ix ix_u (Exists.elim (ok_Reckoning_to_towers C).fn fun _ z => pe_meth (pv 0) (ok_Reckoning_to_towers (P := P) (base := base) C).cl (ok_Reckoning_to_towers (P := P) (base := base) C).mt z.1 (hr.mono (by decide)) z.2 .nil (passes_call (takes_of rfl rfl rfl rfl) fun _ _ _ _ h => h) (pa_cons (pe_slice sl_u (pv 1) (po_some (pe_op op_uAdd (pv 3) pe_int)) po_none) pa_nil)) (pe_un un_neg pe_int) (fun _ _ => rfl))) (pss_cons (ps_set (i := 8) sc_Reckoning_cheapest.nd rfl (Or.inr rfl) (pe_ix ix_u (Exists.elim (ok_Reckoning_from_towers C).fn fun _ z => pe_meth (pv 0) (ok_Reckoning_from_towers (P := P) (base := base) C).cl (ok_Reckoning_from_towers (P := P) (base := base) C).mt z.1 (hr.mono (by decide)) z.2 .nil (passes_call (takes_of rfl rfl rfl rfl) fun _ _ _ _ h => h) (pa_cons (pe_slice sl_u (pv 2) (po_some (pe_op op_uAdd (pv 3) pe_int)) po_none) pa_nil)) (pe_un un_neg pe_int) (fun _ _ => rfl))) (pss_one (ps_ret (pe_callB (cr_min rfl) (by rfl) C.n_min (by decide +kernel) (pa_cons (pe_lc2 (own := [("here", 9), ("there", 10)]) (vs1 := [10]) rfl sc_Reckoning_cheapest.nd (pi_str (pe_ix ix_u (pv 1) (pv 3) (fun _ _ => rfl))) (blkOk_by (N := n_Reckoning_cheapest) (sc := defScope s_Reckoning_cheapest) (by decide +kernel)) (by decide) (fun _ _ _ _ _ => (pg_name (i := 9) sc_Reckoning_cheapest.nd rfl (Or.inl rfl))) (fun _ _ _ _ _ => pts_nil) (fun _ _ _ _ _ => (pi_str (pe_ix ix_u (pv 2) (pv 3) (fun _ _ => rfl)))) (fun _ _ _ _ _ => (pg_name (i := 10) sc_Reckoning_cheapest.nd rfl (Or.inl rfl))) (fun _ _ _ _ _ => pts_nil) (fun _ _ _ _ _ => (pe_callB (call_minT rfl hu) (by rfl) C.n_min (by decide +kernel) (pa_cons (pe_fo (ok_both_lines C) (hr.mono (by decide)) (by rfl) passL (ha := (pa_cons (pe_op op_uAdd (pv 9) (pv 10)) (pa_cons (pv 5) (pa_cons (pv 6) (pa_cons (pv 7) (pa_cons (pv 8) pa_nil))))))) pa_nil)))) pa_nil))))))))))), read_Reckoning_cheapest C.F C.kr h⟩), F.bindsN fun _ _ _ _ _ _ us hl => match us, hl with | [_, _, _], _ => rfl⟩, C.m_Reckoning_cheapest, C.kr.cl⟩
theorem ok_pair_between (C : Ct K w mg) : GoodO P w K mg base 6 "pair_between" ["yard", "starts", "goals"] (sp_pair_between K) := by
  obtain ⟨fd, F⟩ := C.says.def_ 44 (d := d_pair_between) rfl
  exact ⟨⟨fd, F.ok (k := 5) sc_pair_between (fun vs H Q E h => sp3_len vs H Q E h) (fun cdv A outer s H vs Q E hr h => ⟨t_pair_between K E, (have hu := hr.units; (pss_cons (ps_expr (pe_fo (ok_check_pattern C) (hr.mono (by decide)) (by rfl) (passes_call (takes_of rfl rfl rfl rfl) fun _ _ _ _ h => h) (ha := (pa_cons (pv 0) (pa_cons (pv 1) pa_nil))))) (pss_cons (ps_expr (pe_fo (ok_check_pattern C) (hr.mono (by decide)) (by rfl) (passes_call (takes_of rfl rfl rfl rfl) fun _ _ _ _ h => h) (ha := (pa_cons (pv 0) (pa_cons (pv 2) pa_nil))))) (pss_cons (ps_set (i := 3) sc_pair_between.nd rfl (Or.inl rfl) (Exists.elim (ok_Yard_reckoning C).fn fun _ z => pe_meth0 (pv 0) (ok_Yard_reckoning (P := P) (base := base) C).cl (ok_Yard_reckoning (P := P) (base := base) C).mt z.1 (hr.mono (by decide)) z.2 .nil (passes_call (takes_of rfl rfl rfl rfl) fun _ _ _ _ h => h))) (pss_cons (ps_if (pt_cmpR op_uIs (Exists.elim (ok_Reckoning_told C).fn fun _ z => pe_meth (pv 3) (ok_Reckoning_told (P := P) (base := base) C).cl (ok_Reckoning_told (P := P) (base := base) C).mt z.1 (hr.mono (by decide)) z.2 .nil (passes_call (takes_of rfl rfl rfl rfl) fun _ _ _ _ h => h) (pa_cons (Exists.elim (ok_Reckoning_cheapest C).fn fun _ z => pe_meth (pv 3) (ok_Reckoning_cheapest (P := P) (base := base) C).cl (ok_Reckoning_cheapest (P := P) (base := base) C).mt z.1 (hr.mono (by decide)) z.2 .nil (passes_call (takes_of rfl rfl rfl rfl) fun _ _ _ _ h => h) (pa_cons (pv 1) (pa_cons (pv 2) pa_nil))) pa_nil)) pe_non (by rfl)) (pss_one (ps_ret pe_non)) pss_nil) (pss_cons (ps_set (i := 4) sc_pair_between.nd rfl (Or.inl rfl) (pe_fo (ok_first_apart C) (hr.mono (by decide)) (by rfl) (passes_call (takes_of rfl rfl rfl rfl) fun _ _ _ _ h => h) (ha := (pa_cons (pv 1) (pa_cons (pv 2) pa_nil))))) (pss_cons (ps_if (pt_cmpR op_uIs (pv 4) pe_non (by rfl)) (pss_cons ps_never (pss_one ps_never)) pss_nil) (pss_cons ps_never (pss_cons ps_never (pss_cons ps_never (pss_cons ps_never (pss_one ps_never)))))))))))), read_pair_between C.F C.kp h⟩), F.bindsN fun _ _ _ _ _ _ us hl => match us, hl with | [_, _, _], _ => rfl⟩, C.g_pair_between, F.kp⟩
theorem ok__law_asked (C : Ct K w mg) : GoodO P w K mg base 9 "_law_asked" ["_law_way", "_law_yard", "_law_one", "_law_other"] (sp__law_asked K) := by
  obtain ⟨fd, F⟩ := C.says.def_ 56 (d := d__law_asked) rfl
  exact ⟨⟨fd, F.ok (k := 8) sc__law_asked (fun vs H Q E h => sp4_len vs H Q E h) (fun cdv A outer s H vs Q E hr h => ⟨t__law_asked K E, (have hu := hr.units; (pss_cons (ps_if (pt_cmpR op_uLt (pv 0) pe_int (by rfl)) (pss_cons (ps_if (pt_cmpR (op_uEq hu) (pv 0) pe_int (by rfl)) (pss_one (ps_ret (pe_fo (ok_fits C) (hr.mono (by decide)) (by rfl) (passes_call (takes_of rfl rfl rfl rfl) fun _ _ _ _ h => h) (ha := (pa_cons (pv 1) (pa_cons (pv 2) (pa_cons (pv 3) pa_nil))))))) pss_nil) (pss_cons (ps_if (pt_cmpR (op_uEq hu) (pv 0) pe_int (by rfl)) (pss_one (ps_ret (pe_fo (ok_cost_from C) (hr.mono (by decide)) (by rfl) (passes_call (takes_of rfl rfl rfl rfl) fun _ _ _ _ h => h) (ha := (pa_cons (pv 1) (pa_cons (pv 2) (pa_cons (pv 3) pa_nil))))))) pss_nil) (pss_one (ps_ret (pe_ifExp (pt_cmpR (op_uEq hu) (pv 0) pe_int (by rfl)) (pe_fo (ok_nearest_start C) (hr.mono (by decide)) (by rfl) (passes_call (takes_of rfl rfl rfl rfl) fun _ _ _ _ h => h) (ha := (pa_cons (pv 1) (pa_cons (pv 2) (pa_cons (pv 3) pa_nil))))) (pe_fo (ok_how_many_fit C) (hr.mono (by decide)) (by rfl) (passes_call (takes_of rfl rfl rfl rfl) fun _ _ _ _ h => h) (ha := (pa_cons (pv 1) (pa_cons (pv 2) pa_nil))))))))) pss_nil) (pss_cons (ps_if (pt_cmpR op_uLt (pv 0) pe_int (by rfl)) (pss_cons (ps_if (pt_cmpR (op_uEq hu) (pv 0) pe_int (by rfl)) (pss_one (ps_ret (pe_fo (ok_cost_to C) (hr.mono (by decide)) (by rfl) (passes_call (takes_of rfl rfl rfl rfl) fun _ _ _ _ h => h) (ha := (pa_cons (pv 1) (pa_cons (pv 3) (pa_cons (pv 2) pa_nil))))))) pss_nil) (pss_one (ps_ret (pe_ifExp (pt_cmpR (op_uEq hu) (pv 0) pe_int (by rfl)) (pe_fo (ok_nearest C) (hr.mono (by decide)) (by rfl) (passes_call (takes_of rfl rfl rfl rfl) fun _ _ _ _ h => h) (ha := (pa_cons (pv 1) (pa_cons (pv 3) (pa_cons (pv 2) pa_nil))))) (pe_fo (ok_how_many_nearest C) (hr.mono (by decide)) (by rfl) (passes_call (takes_of rfl rfl rfl rfl) fun _ _ _ _ h => h) (ha := (pa_cons (pv 1) (pa_cons (pv 3) (pa_cons (pv 2) pa_nil))))))))) pss_nil) (pss_cons (ps_if (pt_cmpR op_uLt (pv 0) pe_int (by rfl)) (pss_one (ps_ret (pe_ifExp (pt_cmpR (op_uEq hu) (pv 0) pe_int (by rfl)) (pe_fo (ok_cost_between C) (hr.mono (by decide)) (by rfl) (passes_call (takes_of rfl rfl rfl rfl) fun _ _ _ _ h => h) (ha := (pa_cons (pv 1) (pa_cons (pv 2) (pa_cons (pv 3) pa_nil))))) (pe_fo (ok_pair_between C) (hr.mono (by decide)) (by rfl) (passes_call (takes_of rfl rfl rfl rfl) fun _ _ _ _ h => h) (ha := (pa_cons (pv 1) (pa_cons (pv 2) (pa_cons (pv 3) pa_nil)))))))) pss_nil) (pss_cons (ps_if (pt_cmpR (op_uEq hu) (pv 0) pe_int (by rfl)) (pss_one (ps_ret (pe_fo (ok_is_pattern C) (hr.mono (by decide)) (by rfl) (passes_call (takes_of rfl rfl rfl rfl) fun _ _ _ _ h => h) (ha := (pa_cons (pv 1) (pa_cons (pv 2) pa_nil)))))) pss_nil) (pss_one (ps_ret (pe_ifExp (pt_cmpR (op_uEq hu) (pv 0) pe_int (by rfl)) (pe_fo (ok_home_costs C) (hr.mono (by decide)) (by rfl) (passes_call (takes_of rfl rfl rfl rfl) fun _ _ _ _ h => h) (ha := (pa_cons (pv 1) (pa_cons (pv 2) (pa_cons (pv 3) pa_nil))))) (pe_fo (ok_home_within C) (hr.mono (by decide)) (by rfl) (passes_call (takes_of rfl rfl rfl rfl) fun _ _ _ _ h => h) (ha := (pa_cons (pv 1) (pa_cons (pv 2) (pa_cons (pv 3) (pa_cons pe_non pa_nil)))))))))))))), read__law_asked C.F h⟩), F.bindsN fun _ _ _ _ _ _ us hl => match us, hl with | [_, _, _, _], _ => rfl⟩, C.g__law_asked, F.kp⟩
theorem ok__law_caught (C : Ct K w mg) : Good P w K mg base 10 "_law_caught" ["_law_way", "_law_yard", "_law_one", "_law_other"] (sp__law_caught K) := by
  obtain ⟨fd, F⟩ := C.says.def_ 57 (d := d__law_caught) rfl
  exact ⟨⟨fd, fnG_of (k := 9) F sc__law_caught (fun vs H Q E h => sp4_len vs H Q E h) (fun cdv A outer s H vs Q E hA hr h => ⟨t__law_caught K E, (have hu := hr.units; (pss_cons (ps_tryT rfl rfl sc__law_caught.nd (takes_of rfl rfl rfl rfl) (fun W pn xe tk po => (pss_one (ps_expr (pe_foS (ok__law_asked C) (hr.mono (by decide)) (by rfl) tk (ha := (pa_cons (pv 0) (pa_cons (pv 1) (pa_cons (pv 2) (pa_cons (pv 3) pa_nil))))))))) (ClsOk.cons (te_name (c := .ref (He.ga K "InvalidYard")) ⟨by rfl, by decide, .inl C.g_InvalidYard⟩) ⟨rfl, rfl⟩ (fun a oe cls d pn hz hf => (pss_one (ps_ret (pe_lst (pa_cons pe_str (pa_cons (pe_xv hz hf (pv 4)) pa_nil)))))) (ClsOk.cons (te_name (c := .ref (He.ga K "InvalidPattern")) ⟨by rfl, by decide, .inl C.g_InvalidPattern⟩) ⟨rfl, rfl⟩ (fun a oe cls d pn hz hf => (pss_one (ps_ret (pe_lst (pa_cons pe_str (pa_cons (pe_xv hz hf (pv 4)) pa_nil)))))) (ClsOk.cons (te_name (c := .ref (He.ga K "InvalidArrangement")) ⟨by rfl, by decide, .inl C.g_InvalidArrangement⟩) ⟨rfl, rfl⟩ (fun a oe cls d pn hz hf => (pss_one (ps_ret (pe_lst (pa_cons pe_str (pa_cons (pe_xv hz hf (pv 4)) pa_nil)))))) (ClsOk.cons (te_name (c := .ref (He.ga K "InvalidCount")) ⟨by rfl, by decide, .inl C.g_InvalidCount⟩) ⟨rfl, rfl⟩ (fun a oe cls d pn hz hf => (pss_one (ps_ret (pe_lst (pa_cons pe_str (pa_cons (pe_xv hz hf (pv 4)) pa_nil)))))) (ClsOk.cons (te_name (c := .ref (He.ga K "CratesError")) ⟨by rfl, by decide, .inl C.g_CratesError⟩) trivial (fun a oe cls d pn hz hf => (pss_one (ps_ret (pe_lst (pa_cons pe_str pa_nil))))) ClsOk.nil)))))) (pss_one (ps_ret (pe_lst (pa_cons pe_str pa_nil)))))), read__law_caught C.F C.xf h⟩), F.bindsN fun _ _ _ _ _ _ us hl => match us, hl with | [_, _, _, _], _ => rfl⟩, C.g__law_caught, F.kp⟩
theorem ok__law_cell (C : Ct K w mg) : GoodO P w K mg base 1 "_law_cell" ["_law_script", "_law_k"] (sp__law_cell K) := by
  obtain ⟨fd, F⟩ := C.says.def_ 48 (d := d__law_cell) rfl
  exact ⟨⟨fd, F.ok (k := 0) sc__law_cell (fun vs H Q E h => sp2_len vs H Q E h) (fun cdv A outer s H vs Q E hr h => ⟨t__law_cell K E, (have hu := hr.units; (pss_cons (ps_if (pt_cmpR op_uLt (pv 1) (pe_callB call_uLen (by rfl) C.n_len boot_len (pa_cons (pv 0) pa_nil)) (by rfl)) (pss_one (ps_ret (pe_ix ix_u (pv 0) (pv 1) (fun _ _ => rfl)))) pss_nil) (pss_one (ps_ret (pe_op op_uAdd (pe_op op_uAdd (pe_op op_uMul pe_int (pv 1)) pe_int) (pe_op op_uMod (pe_callB (cr_sum rfl) (by rfl) C.n_sum (by decide +kernel) (pa_cons (pe_slice sl_u (pv 0) po_none (po_some pe_int)) pa_nil)) pe_int)))))), read__law_cell C.F h⟩), F.bindsN fun _ _ _ _ _ _ us hl => match us, hl with | [_, _], _ => rfl⟩, C.g__law_cell, F.kp⟩
theorem ok__law_fits (C : Ct K w mg) : GoodO P w K mg base 1 "_law_fits" ["_law_pattern_here", "_law_word_here"] (sp__law_fits K) := by
  obtain ⟨fd, F⟩ := C.says.def_ 55 (d := d__law_fits) rfl
  exact ⟨⟨fd, F.ok (k := 0) sc__law_fits (fun vs H Q E h => sp2_len vs H Q E h) (fun cdv A outer s H vs Q E hr h => ⟨t__law_fits K E, (have hu := hr.units; (pss_one (ps_ret (pe_cmpR (op_uEq hu) (pe_lc (own := [("_law_crate", 2)]) (g := (gName 2)) (tt := (tTest (tOp (uIn K true) (tOp (uIx K) (tVar 1) (tVar 2)) (tOp (uIx K) (tVar 0) (tVar 2))))) rfl sc__law_fits.nd (pi_range1 (by rfl) C.n_range (pa_cons (pe_callB call_uLen (by rfl) C.n_len boot_len (pa_cons (pv 1) pa_nil)) pa_nil)) (blkOk_by (N := n__law_fits) (sc := defScope s__law_fits) (by decide +kernel)) (fun _ _ _ _ _ => (pg_name (i := 2) sc__law_fits.nd rfl (Or.inl rfl))) (fun _ _ _ _ _ => (pts_one (pt_cmpR op_uNin (pe_ix ix_u (pv 1) (pv 2) (fun _ _ => rfl)) (pe_ix ix_u (pv 0) (pv 2) (fun _ _ => rfl)) (by rfl)))) (fun _ _ _ _ _ => (pv 2))) (pe_lst pa_nil) (by rfl))))), read__law_fits C.F h⟩), F.bindsN fun _ _ _ _ _ _ us hl => match us, hl with | [_, _], _ => rfl⟩, C.g__law_fits, F.kp⟩
theorem ok__law_take (C : Ct K w mg) : GoodO P w K mg base 1 "_law_take" ["_law_box_here", "_law_amount"] (sp__law_take K) := by
  obtain ⟨fd, F⟩ := C.says.def_ 50 (d := d__law_take) rfl
  exact ⟨⟨fd, F.ok (k := 0) sc__law_take (fun vs H Q E h => sp2_len vs H Q E h) (fun cdv A outer s H vs Q E hr h => ⟨t__law_take K E, (have hu := hr.units; (pss_cons (ps_if (pt_cmpR op_uGt (pe_ix ix_u (pv 0) pe_int (fun _ _ => rfl)) pe_int (by rfl)) (pss_cons (ps_set (i := 2) sc__law_take.nd rfl (Or.inl rfl) (pe_op op_uMod (pe_callTy call_int1 (by rfl) C.n_int (by decide +kernel) (pa_cons (pe_ix ix_u (pv 0) pe_int (fun _ _ => rfl)) pa_nil)) (pv 1))) (pss_cons (ps_asg (pe_op op_uDiv (pe_ix ix_u (pv 0) pe_int (fun _ _ => rfl)) (pv 1)) (pg_sub (pv 0) pe_int set_list)) (pss_one (ps_ret (pv 2))))) pss_nil) (pss_cons (ps_asg (pe_op op_uAdd (pe_ix ix_u (pv 0) pe_int (fun _ _ => rfl)) pe_int) (pg_sub (pv 0) pe_int set_list)) (pss_cons (ps_set (i := 3) sc__law_take.nd rfl (Or.inl rfl) (pe_op op_uMod (pe_op op_uPow (pe_callTy call_int1 (by rfl) C.n_int (by decide +kernel) (pa_cons (pe_op op_uAdd (pe_op op_uAdd (pe_ix ix_u (pv 0) pe_int (fun _ _ => rfl)) (pe_op op_uMul pe_int (pe_ix ix_u (pv 0) pe_int (fun _ _ => rfl)))) pe_int) pa_nil)) pe_int) pe_int)) (pss_cons (ps_set (i := 3) sc__law_take.nd rfl (Or.inl rfl) (pe_op op_uMod (pe_op op_uPow (pe_callTy call_int1 (by rfl) C.n_int (by decide +kernel) (pa_cons (pe_op op_uAdd (pv 3) (pe_op op_uMul pe_int (pe_ix ix_u (pv 0) pe_int (fun _ _ => rfl)))) pa_nil)) pe_int) pe_int)) (pss_one (ps_ret (pe_op op_uMod (pe_callTy call_int1 (by rfl) C.n_int (by decide +kernel) (pa_cons (pe_op op_uDiv (pv 3) pe_int) pa_nil)) (pv 1))))))))), read__law_take C.F h⟩), F.bindsN fun _ _ _ _ _ _ us hl => match us, hl with | [_, _], _ => rfl⟩, C.g__law_take, F.kp⟩
theorem ok__law_pattern (C : Ct K w mg) : GoodO P w K mg base 2 "_law_pattern" ["_law_box_here", "_law_size_here"] (sp__law_pattern K) := by
  obtain ⟨fd, F⟩ := C.says.def_ 54 (d := d__law_pattern) rfl
  exact ⟨⟨fd, F.ok (k := 1) sc__law_pattern (fun vs H Q E h => sp2_len vs H Q E h) (fun cdv A outer s H vs Q E hr h => ⟨t__law_pattern K E, (have hu := hr.units; (pss_cons (ps_set (i := 2) sc__law_pattern.nd rfl (Or.inr rfl) (pe_lst (pa_cons pe_str (pa_cons pe_str (pa_cons pe_str (pa_cons pe_str (pa_cons pe_str (pa_cons pe_str (pa_cons pe_str (pa_cons pe_str (pa_cons pe_str pa_nil))))))))))) (pss_one (ps_ret (pe_lc (own := [("_law_crate", 3)]) (g := (gName 3)) (tt := tYes) rfl sc__law_pattern.nd (pi_range1 (by rfl) C.n_range (pa_cons (pv 1) pa_nil)) (blkOk_by (N := n__law_pattern) (sc := defScope s__law_pattern) (by decide +kernel)) (fun _ _ _ _ _ => (pg_name (i := 3) sc__law_pattern.nd rfl (Or.inl rfl))) (fun _ _ _ _ _ => pts_nil) (fun _ _ _ _ _ => (pe_ix ix_u (pv 2) (pe_fo (ok__law_take C) (hr.mono (by decide)) (by rfl) passL (ha := (pa_cons (pv 0) (pa_cons pe_int pa_nil)))) (fun _ _ => rfl)))))))), read__law_pattern C.F h⟩), F.bindsN fun _ _ _ _ _ _ us hl => match us, hl with | [_, _], _ => rfl⟩, C.g__law_pattern, F.kp⟩
theorem ok__law_plain (C : Ct K w mg) : GoodO P w K mg base 2 "_law_plain" ["_law_box_here", "_law_size_here"] (sp__law_plain K) := by
  obtain ⟨fd, F⟩ := C.says.def_ 52 (d := d__law_plain) rfl
  exact ⟨⟨fd, F.ok (k := 1) sc__law_plain (fun vs H Q E h => sp2_len vs H Q E h) (fun cdv A outer s H vs Q E hr h => ⟨t__law_plain K E, (have hu := hr.units; (pss_cons (ps_set (i := 2) sc__law_plain.nd rfl (Or.inl rfl) (pe_ix ix_u (pe_lst (pa_cons pe_int (pa_cons pe_int (pa_cons pe_int (pa_cons pe_int (pa_cons pe_int pa_nil)))))) (pe_fo (ok__law_take C) (hr.mono (by decide)) (by rfl) (passes_call (takes_of rfl rfl rfl rfl) fun _ _ _ _ h => h) (ha := (pa_cons (pv 0) (pa_cons pe_int pa_nil)))) (fun _ _ => rfl))) (pss_cons (ps_par3 (by rfl) sc__law_plain.nd rfl rfl rfl (by decide) (by decide) (by decide) rfl rfl rfl (pa_cons (pe_cmpR (op_uEq hu) (pe_fo (ok__law_take C) (hr.mono (by decide)) (by rfl) (passes_call (takes_of rfl rfl rfl rfl) fun _ _ _ _ h => h) (ha := (pa_cons (pv 0) (pa_cons pe_int pa_nil)))) pe_int (by rfl)) (pa_cons (pe_cmpR (op_uEq hu) (pe_fo (ok__law_take C) (hr.mono (by decide)) (by rfl) (passes_call (takes_of rfl rfl rfl rfl) fun _ _ _ _ h => h) (ha := (pa_cons (pv 0) (pa_cons pe_int pa_nil)))) pe_int (by rfl)) (pa_cons (pe_lst pa_nil) pa_nil))) (by rfl)) (pss_cons (ps_for (passes_of rfl) rfl (pi_range1 (by rfl) C.n_range (pa_cons (pv 1) pa_nil)) (pg_name (i := 6) sc__law_plain.nd rfl (Or.inl rfl)) (pss_cons (ps_set (i := 7) sc__law_plain.nd rfl (Or.inl rfl) (pe_lst pa_nil)) (pss_cons (ps_for (passes_of rfl) rfl (pi_range1 (by rfl) C.n_range (pa_cons pe_int pa_nil)) (pg_name (i := 8) sc__law_plain.nd rfl (Or.inl rfl)) (pss_cons (ps_set (i := 9) sc__law_plain.nd rfl (Or.inl rfl) (pe_ix ix_u (pe_lst (pa_cons pe_int (pa_cons pe_int (pa_cons pe_int (pa_cons pe_int (pa_cons (pe_op op_uAdd pe_int (pe_fo (ok__law_take C) (hr.mono (by decide)) (by rfl) (passes_call (takes_of rfl rfl rfl rfl) fun _ _ _ _ h => h) (ha := (pa_cons (pv 0) (pa_cons pe_int pa_nil))))) (pa_cons pe_int pa_nil))))))) (pe_ifExp (pt_truth (pv 4) (by intro _; rfl)) pe_int (pe_fo (ok__law_take C) (hr.mono (by decide)) (by rfl) (passes_call (takes_of rfl rfl rfl rfl) fun _ _ _ _ h => h) (ha := (pa_cons (pv 0) (pa_cons pe_int pa_nil))))) (fun _ _ => rfl))) (pss_cons (ps_set (i := 9) sc__law_plain.nd rfl (Or.inl rfl) (pe_ifExp (PW.pt (pw_and (pt_truth (pv 3) (by intro _; rfl)) (pw_and1 (pt_not (pt_truth (pv 4) (by intro _; rfl)))))) (pe_op op_uAdd (pe_op op_uMul (pv 9) (pe_op op_uPow pe_int pe_int)) (pe_fo (ok__law_take C) (hr.mono (by decide)) (by rfl) (passes_call (takes_of rfl rfl rfl rfl) fun _ _ _ _ h => h) (ha := (pa_cons (pv 0) (pa_cons pe_int pa_nil))))) (pv 9))) (pss_one (ps_expr (pe_bm PySem.F.plainAttrs_list PySem.F.slot_list_append PySem.F.type_list_append mt_append (pv 7) (pa_cons (pe_ifExp (pt_cmpR op_uLt (pe_fo (ok__law_take C) (hr.mono (by decide)) (by rfl) (passes_call (takes_of rfl rfl rfl rfl) fun _ _ _ _ h => h) (ha := (pa_cons (pv 0) (pa_cons pe_int pa_nil)))) (pv 2) (by rfl)) pe_non (pv 9)) pa_nil))))))) (pss_one (ps_expr (pe_bm PySem.F.plainAttrs_list PySem.F.slot_list_append PySem.F.type_list_append mt_append (pv 5) (pa_cons (pv 7) pa_nil))))))) (pss_one (ps_ret (pv 5))))))), read__law_plain C.F h⟩), F.bindsN fun _ _ _ _ _ _ us hl => match us, hl with | [_, _], _ => rfl⟩, C.g__law_plain, F.kp⟩
theorem ok__law_odd (C : Ct K w mg) : GoodO P w K mg base 2 "_law_odd" ["_law_box_here", "_law_pattern_here"] (sp__law_odd K) := by
  obtain ⟨fd, F⟩ := C.says.def_ 58 (d := d__law_odd) rfl
  exact ⟨⟨fd, F.ok (k := 1) sc__law_odd (fun vs H Q E h => sp2_len vs H Q E h) (fun cdv A outer s H vs Q E hr h => ⟨t__law_odd K E, (have hu := hr.units; (pss_cons (ps_set (i := 2) sc__law_odd.nd rfl (Or.inl rfl) (pe_fo (ok__law_take C) (hr.mono (by decide)) (by rfl) (passes_call (takes_of rfl rfl rfl rfl) fun _ _ _ _ h => h) (ha := (pa_cons (pv 0) (pa_cons (pe_callB call_uLen (by rfl) C.n_len boot_len (pa_cons (pv 1) pa_nil)) pa_nil))))) (pss_cons (ps_set (i := 3) sc__law_odd.nd rfl (Or.inl rfl) (pe_ix ix_u (pe_lst (pa_cons pe_str (pa_cons pe_str (pa_cons pe_str (pa_cons pe_str (pa_cons pe_str (pa_cons pe_str (pa_cons pe_str (pa_cons pe_non (pa_cons pe_int (pa_cons (pe_lst (pa_cons pe_str pa_nil)) (pa_cons (pe_tup (pa_cons pe_str (pa_cons pe_str pa_nil))) (pa_cons pe_str (pa_cons pe_bl (pa_cons pe_dnewK pa_nil))))))))))))))) (pe_fo (ok__law_take C) (hr.mono (by decide)) (by rfl) (passes_call (takes_of rfl rfl rfl rfl) fun _ _ _ _ h => h) (ha := (pa_cons (pv 0) (pa_cons pe_int pa_nil)))) (fun _ _ => rfl))) (pss_cons (ps_set (i := 4) sc__law_odd.nd rfl (Or.inl rfl) (pe_op op_uAdd (pe_op op_uAdd (pe_slice sl_u (pv 1) po_none (po_some (pv 2))) (pe_lst (pa_cons (pv 3) pa_nil))) (pe_slice sl_u (pv 1) (po_some (pe_op op_uAdd (pv 2) pe_int)) po_none))) (pss_cons (ps_set (i := 5) sc__law_odd.nd rfl (Or.inl rfl) (pe_lst (pa_cons (pv 4) (pa_cons (pv 4) (pa_cons (pv 4) (pa_cons (pe_slice sl_u (pv 1) po_none (po_some (pe_un un_neg pe_int))) (pa_cons (pe_op op_uAdd (pv 1) (pe_lst (pa_cons pe_str pa_nil))) (pa_cons pe_non (pa_cons pe_int (pa_cons pe_str (pa_cons pe_dnewK (pa_cons pe_bl (pa_cons (pe_lst pa_nil) (pa_cons (pe_lst (pa_cons (pv 1) pa_nil)) pa_nil)))))))))))))) (pss_one (ps_ret (pe_ix ix_u (pe_op op_uAdd (pv 5) (pe_lst (pa_cons (pe_op op_uMul pe_str (pe_callB call_uLen (by rfl) C.n_len boot_len (pa_cons (pv 1) pa_nil))) pa_nil))) (pe_fo (ok__law_take C) (hr.mono (by decide)) (by rfl) (passes_call (takes_of rfl rfl rfl rfl) fun _ _ _ _ h => h) (ha := (pa_cons (pv 0) (pa_cons pe_int pa_nil)))) (fun _ _ => rfl))))))))), read__law_odd C.F h⟩), F.bindsN fun _ _ _ _ _ _ us hl => match us, hl with | [_, _], _ => rfl⟩, C.g__law_odd, F.kp⟩
theorem ok_is_price (C : Ct K w mg) : GoodO P w K mg base 2 "is_price" ["value"] (sp_is_price K) := by
  obtain ⟨fd, F⟩ := C.says.def_ 21 (d := d_is_price) rfl
  exact ⟨⟨fd, F.ok (k := 1) sc_is_price (fun vs H Q E h => sp1_len vs H Q E h) (fun cdv A outer s H vs Q E hr h => ⟨t_is_price K E, (have hu := hr.units; (pss_one (ps_ret (pe_and (pe_fo (ok_is_integer C) (hr.mono (by decide)) (by rfl) (passes_call (takes_of rfl rfl rfl rfl) fun _ _ _ _ h => h) (ha := (pa_cons (pv 0) pa_nil))) (pe_one (pe_cmpR op_uGt (pv 0) pe_int (by rfl))))))), read_is_price C.F h⟩), F.bindsN fun _ _ _ _ _ _ us hl => match us, hl with | [_], _ => rfl⟩, C.g_is_price, F.kp⟩
theorem ok__is_price_row (C : Ct K w mg) : GoodO P w K mg base 3 "_is_price_row" ["value"] (sp__is_price_row K) := by
  obtain ⟨fd, F⟩ := C.says.def_ 30 (d := d__is_price_row) rfl
  exact ⟨⟨fd, F.ok (k := 2) sc__is_price_row (fun vs H Q E h => sp1_len vs H Q E h) (fun cdv A outer s H vs Q E hr h => ⟨t__is_price_row K E, (have hu := hr.units; (pss_one (ps_ret (pe_and (pe_callB call_uIsi (by rfl) C.n_isinstance (by decide +kernel) (pa_cons (pv 0) (pa_cons (pe_tup (pa_cons (pe_bltn (v := .ty "list") (by rfl) C.n_list (by decide +kernel) rfl) (pa_cons (pe_bltn (v := .ty "tuple") (by rfl) C.n_tuple (by decide +kernel) rfl) pa_nil))) pa_nil))) (pe_and (pe_cmpR (op_uEq hu) (pe_callB call_uLen (by rfl) C.n_len boot_len (pa_cons (pv 0) pa_nil)) (pe_callB call_uLen (by rfl) C.n_len boot_len (pa_cons (pe_glob (by rfl) C.g_WAYS rfl) pa_nil)) (by rfl)) (pe_one (pe_callB (cr_all rfl) (by rfl) C.n_all (by decide +kernel) (pa_cons (pe_lc (own := [("price", 1)]) (g := (gName 1)) (tt := tYes) rfl sc__is_price_row.nd (pi_seq (pv 0)) (blkOk_by (N := n__is_price_row) (sc := defScope s__is_price_row) (by decide +kernel)) (fun _ _ _ _ _ => (pg_name (i := 1) sc__is_price_row.nd rfl (Or.inl rfl))) (fun _ _ _ _ _ => pts_nil) (fun _ _ _ _ _ => (pe_or (pe_cmpR op_uIs (pv 1) pe_non (by rfl)) (pe_one (pe_fo (ok_is_price C) (hr.mono (by decide)) (by rfl) passL (ha := (pa_cons (pv 1) pa_nil))))))) pa_nil)))))))), read__is_price_row C.F h⟩), F.bindsN fun _ _ _ _ _ _ us hl => match us, hl with | [_], _ => rfl⟩, C.g__is_price_row, F.kp⟩
theorem ok__are_rows (C : Ct K w mg) : GoodO P w K mg base 4 "_are_rows" ["value"] (sp__are_rows K) := by
  obtain ⟨fd, F⟩ := C.says.def_ 29 (d := d__are_rows) rfl
  exact ⟨⟨fd, F.ok (k := 3) sc__are_rows (fun vs H Q E h => sp1_len vs H Q E h) (fun cdv A outer s H vs Q E hr h => ⟨t__are_rows K E, (have hu := hr.units; (pss_one (ps_ret (pe_and (pe_callB call_uIsi (by rfl) C.n_isinstance (by decide +kernel) (pa_cons (pv 0) (pa_cons (pe_tup (pa_cons (pe_bltn (v := .ty "list") (by rfl) C.n_list (by decide +kernel) rfl) (pa_cons (pe_bltn (v := .ty "tuple") (by rfl) C.n_tuple (by decide +kernel) rfl) pa_nil))) pa_nil))) (pe_and (pe_chain op_uLe op_uLe pe_int (pe_callB call_uLen (by rfl) C.n_len boot_len (pa_cons (pv 0) pa_nil)) (pe_int_of (by rfl) (C.int_MOST_CRATES))) (pe_one (pe_callB (cr_all rfl) (by rfl) C.n_all (by decide +kernel) (pa_cons (pe_lc (own := [("row", 1)]) (g := (gName 1)) (tt := tYes) rfl sc__are_rows.nd (pi_seq (pv 0)) (blkOk_by (N := n__are_rows) (sc := defScope s__are_rows) (by decide +kernel)) (fun _ _ _ _ _ => (pg_name (i := 1) sc__are_rows.nd rfl (Or.inl rfl))) (fun _ _ _ _ _ => pts_nil) (fun _ _ _ _ _ => (pe_fo (ok__is_price_row C) (hr.mono (by decide)) (by rfl) passL (ha := (pa_cons (pv 1) pa_nil))))) pa_nil)))))))), read__are_rows C.F h⟩), F.bindsN fun _ _ _ _ _ _ us hl => match us, hl with | [_], _ => rfl⟩, C.g__are_rows, F.kp⟩
theorem ok_Yard_init (C : Ct K w mg) : GoodM P w K mg base 5 "Yard" "__init__" ["self", "rows"] (sp_Yard_init K) := by
  obtain ⟨fd, F⟩ := C.says.def_ 26 (d := d_Yard_init) rfl
  exact ⟨⟨fd, F.ok (k := 4) sc_Yard_init (fun vs H Q E h => sp2_len vs H Q E h) (fun cdv A outer s H vs Q E hr h => ⟨t_Yard_init K E, (have hu := hr.units; (pss_cons (ps_if (pt_not (pt_val (pe_fo (ok__are_rows C) (hr.mono (by decide)) (by rfl) (passes_call (takes_of rfl rfl rfl rfl) fun _ _ _ _ h => h) (ha := (pa_cons (pv 1) pa_nil))))) (pss_one (ps_rse (okx_InvalidYard C) (hr.mono (by decide)) rfl (takes_of rfl rfl rfl rfl) (by rfl) (pa_cons (pv 1) pa_nil))) pss_nil) (pss_cons (ps_fld (pv 0) (pe_callTy (call_uTup rfl) (by rfl) C.n_tuple (by decide +kernel) (pa_cons (pe_lc (own := [("row", 2)]) (g := (gName 2)) (tt := tYes) rfl sc_Yard_init.nd (pi_seq (pv 1)) (blkOk_by (N := n_Yard_init) (sc := defScope s_Yard_init) (by decide +kernel)) (fun _ _ _ _ _ => (pg_name (i := 2) sc_Yard_init.nd rfl (Or.inl rfl))) (fun _ _ _ _ _ => pts_nil) (fun _ _ _ _ _ => (pe_callTy (call_uTup rfl) (by rfl) C.n_tuple (by decide +kernel) (pa_cons (pv 2) pa_nil)))) pa_nil)) rfl) (pss_one (ps_fld (pv 0) pe_non rfl))))), read_Yard_init C.F h⟩), F.bindsN fun _ _ _ _ _ _ us hl => match us, hl with | [_, _], _ => rfl⟩, C.m_Yard_init, C.F.cl⟩
theorem ok__law_right (C : Ct K w mg) : Good P w K mg base 11 "_law_right" ["_law_box_here", "_law_yard", "_law_pattern_here", "_law_word_here"] (sp__law_right K) := by
  obtain ⟨fd, F⟩ := C.says.def_ 60 (d := d__law_right) rfl
  exact ⟨⟨fd, fnG_of (k := 10) F sc__law_right (fun vs H Q E h => sp4_len vs H Q E h) (fun cdv A outer s H vs Q E hA hr h => ⟨t__law_right K E, (have hu := hr.units; (pss_cons (ps_set (i := 4) sc__law_right.nd rfl (Or.inl rfl) (pe_fo (ok__law_odd C) (hr.mono (by decide)) (by rfl) (passes_call (takes_of rfl rfl rfl rfl) fun _ _ _ _ h => h) (ha := (pa_cons (pv 0) (pa_cons (pv 2) pa_nil))))) (pss_cons (ps_set (i := 5) sc__law_right.nd rfl (Or.inl rfl) (pe_ix ix_u (pe_lst (pa_cons pe_non (pa_cons pe_int (pa_cons pe_str (pa_cons (pe_op op_uAdd (pv 3) pe_str) (pa_cons (pe_op op_uAdd (pe_slice sl_u (pv 3) po_none (po_some (pe_un un_neg pe_int))) pe_str) (pa_cons (pe_callTy (call_uLst rfl) (by rfl) C.n_list (by decide +kernel) (pa_cons (pv 3) pa_nil)) (pa_cons pe_bl (pa_cons pe_dnewK pa_nil))))))))) (pe_fo (ok__law_take C) (hr.mono (by decide)) (by rfl) (passes_call (takes_of rfl rfl rfl rfl) fun _ _ _ _ h => h) (ha := (pa_cons (pv 0) (pa_cons pe_int pa_nil)))) (fun _ _ => rfl))) (pss_cons (ps_if (PW.pt (pw_or (pt_cmpR op_uNis (pe_fo (ok_is_pattern C) (hr.mono (by decide)) (by rfl) (passes_call (takes_of rfl rfl rfl rfl) fun _ _ _ _ h => h) (ha := (pa_cons (pv 1) (pa_cons (pv 4) pa_nil)))) pe_bl (by rfl)) (pw_or1 (pt_cmpR op_uNis (pe_fo (ok_is_pattern C) (hr.mono (by decide)) (by rfl) (passes_call (takes_of rfl rfl rfl rfl) fun _ _ _ _ h => h) (ha := (pa_cons (pv 1) (pa_cons (pe_callTy (call_uTup rfl) (by rfl) C.n_tuple (by decide +kernel) (pa_cons (pv 2) pa_nil)) pa_nil)))) pe_bl (by rfl))))) (pss_one (ps_ret pe_bl)) pss_nil) (pss_cons (ps_for (passes_of rfl) rfl (pi_range1 (by rfl) C.n_range (pa_cons pe_int pa_nil)) (pg_name (i := 6) sc__law_right.nd rfl (Or.inl rfl)) (pss_one (ps_if (pt_cmpR (op_uNe hu) (pe_callB (call_uReprQ hA hu C.ks) (by rfl) C.n_repr (by decide +kernel) (pa_cons (pe_fn (ok__law_caught C) hA (hr.mono (by decide)) (by rfl) (passes_call (takes_of rfl rfl rfl rfl) fun _ _ _ _ h => h) (ha := (pa_cons (pv 6) (pa_cons (pv 1) (pa_cons (pv 4) (pa_cons (pv 5) pa_nil)))))) pa_nil)) (pe_callB (call_uReprQ hA hu C.ks) (by rfl) C.n_repr (by decide +kernel) (pa_cons (pe_lst (pa_cons pe_str (pa_cons (pv 4) pa_nil))) pa_nil)) (by rfl)) (pss_one (ps_ret pe_bl)) pss_nil))) (pss_cons (ps_for (passes_of rfl) rfl (pi_range1 (by rfl) C.n_range (pa_cons pe_int pa_nil)) (pg_name (i := 6) sc__law_right.nd rfl (Or.inl rfl)) (pss_one (ps_if (pt_cmpR (op_uNe hu) (pe_callB (call_uReprQ hA hu C.ks) (by rfl) C.n_repr (by decide +kernel) (pa_cons (pe_fn (ok__law_caught C) hA (hr.mono (by decide)) (by rfl) (passes_call (takes_of rfl rfl rfl rfl) fun _ _ _ _ h => h) (ha := (pa_cons (pv 6) (pa_cons (pv 1) (pa_cons (pv 2) (pa_cons (pv 5) pa_nil)))))) pa_nil)) (pe_callB (call_uReprQ hA hu C.ks) (by rfl) C.n_repr (by decide +kernel) (pa_cons (pe_lst (pa_cons pe_str (pa_cons (pv 5) pa_nil))) pa_nil)) (by rfl)) (pss_one (ps_ret pe_bl)) pss_nil))) (pss_cons (ps_for (passes_of rfl) rfl (pi_seq (pe_lst (pa_cons pe_int (pa_cons pe_int (pa_cons pe_int pa_nil))))) (pg_name (i := 6) sc__law_right.nd rfl (Or.inl rfl)) (pss_cons (ps_if (pt_cmpR (op_uNe hu) (pe_callB (call_uReprQ hA hu C.ks) (by rfl) C.n_repr (by decide +kernel) (pa_cons (pe_fn (ok__law_caught C) hA (hr.mono (by decide)) (by rfl) (passes_call (takes_of rfl rfl rfl rfl) fun _ _ _ _ h => h) (ha := (pa_cons (pv 6) (pa_cons (pv 1) (pa_cons (pv 4) (pa_cons (pv 5) pa_nil)))))) pa_nil)) (pe_callB (call_uReprQ hA hu C.ks) (by rfl) C.n_repr (by decide +kernel) (pa_cons (pe_lst (pa_cons pe_str (pa_cons (pv 5) pa_nil))) pa_nil)) (by rfl)) (pss_one (ps_ret pe_bl)) pss_nil) (pss_one (ps_if (pt_cmpR (op_uNe hu) (pe_callB (call_uReprQ hA hu C.ks) (by rfl) C.n_repr (by decide +kernel) (pa_cons (pe_fn (ok__law_caught C) hA (hr.mono (by decide)) (by rfl) (passes_call (takes_of rfl rfl rfl rfl) fun _ _ _ _ h => h) (ha := (pa_cons (pv 6) (pa_cons (pv 1) (pa_cons (pv 4) (pa_cons (pv 3) pa_nil)))))) pa_nil)) (pe_callB (call_uReprQ hA hu C.ks) (by rfl) C.n_repr (by decide +kernel) (pa_cons (pe_lst (pa_cons pe_str (pa_cons (pv 4) pa_nil))) pa_nil)) (by rfl)) (pss_one (ps_ret pe_bl)) pss_nil)))) (pss_cons (ps_for (passes_of rfl) rfl (pi_seq (pe_lst (pa_cons pe_int (pa_cons pe_int pa_nil)))) (pg_name (i := 6) sc__law_right.nd rfl (Or.inl rfl)) (pss_cons (ps_if (pt_cmpR (op_uNe hu) (pe_callB (call_uReprQ hA hu C.ks) (by rfl) C.n_repr (by decide +kernel) (pa_cons (pe_fn (ok__law_caught C) hA (hr.mono (by decide)) (by rfl) (passes_call (takes_of rfl rfl rfl rfl) fun _ _ _ _ h => h) (ha := (pa_cons (pv 6) (pa_cons (pv 1) (pa_cons (pv 4) (pa_cons (pv 5) pa_nil)))))) pa_nil)) (pe_callB (call_uReprQ hA hu C.ks) (by rfl) C.n_repr (by decide +kernel) (pa_cons (pe_lst (pa_cons pe_str (pa_cons (pv 4) pa_nil))) pa_nil)) (by rfl)) (pss_one (ps_ret pe_bl)) pss_nil) (pss_one (ps_if (pt_cmpR (op_uNe hu) (pe_callB (call_uReprQ hA hu C.ks) (by rfl) C.n_repr (by decide +kernel) (pa_cons (pe_fn (ok__law_caught C) hA (hr.mono (by decide)) (by rfl) (passes_call (takes_of rfl rfl rfl rfl) fun _ _ _ _ h => h) (ha := (pa_cons (pv 6) (pa_cons (pv 1) (pa_cons (pv 2) (pa_cons (pv 4) pa_nil)))))) pa_nil)) (pe_callB (call_uReprQ hA hu C.ks) (by rfl) C.n_repr (by decide +kernel) (pa_cons (pe_lst (pa_cons pe_str (pa_cons (pv 4) pa_nil))) pa_nil)) (by rfl)) (pss_one (ps_ret pe_bl)) pss_nil)))) (pss_cons (ps_for (passes_of rfl) rfl (pi_seq (pe_lst (pa_cons pe_int (pa_cons pe_int pa_nil)))) (pg_name (i := 6) sc__law_right.nd rfl (Or.inl rfl)) (pss_cons (ps_if (pt_cmpR (op_uNe hu) (pe_callB (call_uReprQ hA hu C.ks) (by rfl) C.n_repr (by decide +kernel) (pa_cons (pe_fn (ok__law_caught C) hA (hr.mono (by decide)) (by rfl) (passes_call (takes_of rfl rfl rfl rfl) fun _ _ _ _ h => h) (ha := (pa_cons (pv 6) (pa_cons (pv 1) (pa_cons (pv 5) (pa_cons (pv 4) pa_nil)))))) pa_nil)) (pe_callB (call_uReprQ hA hu C.ks) (by rfl) C.n_repr (by decide +kernel) (pa_cons (pe_lst (pa_cons pe_str (pa_cons (pv 5) pa_nil))) pa_nil)) (by rfl)) (pss_one (ps_ret pe_bl)) pss_nil) (pss_one (ps_if (pt_cmpR (op_uNe hu) (pe_callB (call_uReprQ hA hu C.ks) (by rfl) C.n_repr (by decide +kernel) (pa_cons (pe_fn (ok__law_caught C) hA (hr.mono (by decide)) (by rfl) (passes_call (takes_of rfl rfl rfl rfl) fun _ _ _ _ h => h) (ha := (pa_cons (pv 6) (pa_cons (pv 1) (pa_cons (pv 3) (pa_cons (pv 5) pa_nil)))))) pa_nil)) (pe_callB (call_uReprQ hA hu C.ks) (by rfl) C.n_repr (by decide +kernel) (pa_cons (pe_lst (pa_cons pe_str (pa_cons (pv 5) pa_nil))) pa_nil)) (by rfl)) (pss_one (ps_ret pe_bl)) pss_nil)))) (pss_one (ps_ret (pe_cmpR (op_uEq hu) (pe_fn (ok__law_caught C) hA (hr.mono (by decide)) (by rfl) (passes_call (takes_of rfl rfl rfl rfl) fun _ _ _ _ h => h) (ha := (pa_cons pe_int (pa_cons (pe_mk (ok_Yard_init C) C.mk_Yard C.g_Yard (hr.mono (by decide)) (by rfl) (passes_call (takes_of rfl rfl rfl rfl) fun _ _ _ _ h => h) (ha := (pa_cons (pe_op op_uMul (pe_lst (pa_cons (pe_op op_uMul (pe_lst (pa_cons pe_int pa_nil)) pe_int) pa_nil)) pe_int) pa_nil))) (pa_cons pe_str (pa_cons pe_str pa_nil)))))) (pe_lst (pa_cons pe_str (pa_cons pe_non pa_nil))) (by rfl))))))))))))), read__law_right C.F h⟩), F.bindsN fun _ _ _ _ _ _ us hl => match us, hl with | [_, _, _, _], _ => rfl⟩, C.g__law_right, F.kp⟩
theorem ok__law_size (C : Ct K w mg) : GoodO P w K mg base 2 "_law_size" ["_law_box_here", "_law_most"] (sp__law_size K) := by
  obtain ⟨fd, F⟩ := C.says.def_ 51 (d := d__law_size) rfl
  exact ⟨⟨fd, F.ok (k := 1) sc__law_size (fun vs H Q E h => sp2_len vs H Q E h) (fun cdv A outer s H vs Q E hr h => ⟨t__law_size K E, (have hu := hr.units; (pss_cons (ps_set (i := 2) sc__law_size.nd rfl (Or.inl rfl) (pe_op op_uAdd pe_int (pe_fo (ok__law_take C) (hr.mono (by decide)) (by rfl) (passes_call (takes_of rfl rfl rfl rfl) fun _ _ _ _ h => h) (ha := (pa_cons (pv 0) (pa_cons (pv 1) pa_nil)))))) (pss_one (ps_ret (pe_ifExp (PW.pt (pw_and (pt_cmpR (op_uEq hu) (pv 2) pe_int (by rfl)) (pw_and1 (pt_cmpR op_uGt (pe_fo (ok__law_take C) (hr.mono (by decide)) (by rfl) (passes_call (takes_of rfl rfl rfl rfl) fun _ _ _ _ h => h) (ha := (pa_cons (pv 0) (pa_cons pe_int pa_nil)))) pe_int (by rfl))))) (pv 1) (pv 2)))))), read__law_size C.F h⟩), F.bindsN fun _ _ _ _ _ _ us hl => match us, hl with | [_, _], _ => rfl⟩, C.g__law_size, F.kp⟩
theorem ok__law_very_right (C : Ct K w mg) : Good P w K mg base 11 "_law_very_right" ["_law_yard", "_law_pattern_here", "_law_word_here"] (sp__law_very_right K) := by
  obtain ⟨fd, F⟩ := C.says.def_ 59 (d := d__law_very_right) rfl
  exact ⟨⟨fd, fnG_of (k := 10) F sc__law_very_right (fun vs H Q E h => sp3_len vs H Q E h) (fun cdv A outer s H vs Q E hA hr h => ⟨t__law_very_right K E, (have hu := hr.units; (pss_cons (ps_set (i := 3) sc__law_very_right.nd rfl (Or.inr rfl) (pe_op op_uAdd (pv 1) (pe_lst (pa_cons pe_str pa_nil)))) (pss_cons (ps_setLc (i := 4) (own := [("_law_way", 5)]) (g := (gName 5)) (tt := tYes) rfl sc__law_very_right.nd rfl rfl (by exact sw_true rfl rfl rfl (by decide +kernel)) (pi_range1 (by rfl) C.n_range (pa_cons pe_int pa_nil)) (blkOk_by (N := n__law_very_right) (sc := defScope s__law_very_right) (by decide +kernel)) (fun _ _ _ _ _ => (pg_name (i := 5) sc__law_very_right.nd rfl (Or.inl rfl))) (fun _ _ _ _ _ => pts_nil) (fun _ _ _ _ _ => (pe_fn (ok__law_caught C) hA (hr.mono (by decide)) (by rfl) passL (ha := (pa_cons (pv 5) (pa_cons (pv 0) (pa_cons (pv 3) (pa_cons (pv 2) pa_nil)))))))) (pss_cons (ps_expr (pe_bm PySem.F.plainAttrs_list PySem.F.slot_list_append PySem.F.type_list_append mt_append (pv 3) (pa_cons pe_str pa_nil))) (pss_one (ps_ret (pe_cmpR (op_uEq hu) (pv 4) (pe_op op_uMul (pe_lst (pa_cons (pe_lst (pa_cons pe_str (pa_cons (pv 3) pa_nil))) pa_nil)) pe_int) (by rfl)))))))), read__law_very_right C.F h⟩), F.bindsN fun _ _ _ _ _ _ us hl => match us, hl with | [_, _, _], _ => rfl⟩, C.g__law_very_right, F.kp⟩
theorem ok__law_word (C : Ct K w mg) : GoodO P w K mg base 2 "_law_word" ["_law_box_here", "_law_size_here"] (sp__law_word K) := by
  obtain ⟨fd, F⟩ := C.says.def_ 53 (d := d__law_word) rfl
  exact ⟨⟨fd, F.ok (k := 1) sc__law_word (fun vs H Q E h => sp2_len vs H Q E h) (fun cdv A outer s H vs Q E hr h => ⟨t__law_word K E, (have hu := hr.units; (pss_one (ps_ret (pe_joinU pe_str (pe_lc (own := [("_law_crate", 2)]) (g := (gName 2)) (tt := tYes) rfl sc__law_word.nd (pi_range1 (by rfl) C.n_range (pa_cons (pv 1) pa_nil)) (blkOk_by (N := n__law_word) (sc := defScope s__law_word) (by decide +kernel)) (fun _ _ _ _ _ => (pg_name (i := 2) sc__law_word.nd rfl (Or.inl rfl))) (fun _ _ _ _ _ => pts_nil) (fun _ _ _ _ _ => (pe_ix ix_u pe_str (pe_fo (ok__law_take C) (hr.mono (by decide)) (by rfl) passL (ha := (pa_cons (pv 0) (pa_cons pe_int pa_nil)))) (fun _ _ => rfl)))))))), read__law_word C.F h⟩), F.bindsN fun _ _ _ _ _ _ us hl => match us, hl with | [_, _], _ => rfl⟩, C.g__law_word, F.kp⟩
theorem okF_law (C : Ct K w mg) {fd : FuncData} (F : FunD K d_law.name d_law.qual d_law.params d_law.body d_law.scope (d_law.dvs K) (d_law.kws K) (d_law.at_ K) fd) : FnG P w K mg base 12 (He.ga K "law") fd ["_law_script"] (sp_law0 K) :=
  fnG_of (k := 11) F sc_law (fun vs H Q E h => sp1_len vs H Q E h) (fun cdv A outer s H vs Q E hA hr h => ⟨t_law K E, (have hu := hr.units; (pss_cons (ps_for (passes_of rfl) rfl (pi_range1 (by rfl) C.n_range (pa_cons (pe_callB (call_max2 rfl) (by rfl) C.n_max (by decide +kernel) (pa_cons pe_int (pa_cons (pe_callB (call_min2 rfl) (by rfl) C.n_min (by decide +kernel) (pa_cons pe_int (pa_cons (pe_callB call_uLen (by rfl) C.n_len boot_len (pa_cons (pv 0) pa_nil)) pa_nil))) pa_nil))) pa_nil)) (pg_name (i := 1) sc_law.nd rfl (Or.inl rfl)) (pss_cons (ps_set (i := 2) sc_law.nd rfl (Or.inr rfl) (pe_fo (ok__law_box C) (hr.mono (by decide)) (by rfl) (passes_call (takes_of rfl rfl rfl rfl) fun _ _ _ _ h => h) (ha := (pa_cons (pe_fo (ok__law_cell C) (hr.mono (by decide)) (by rfl) (passes_call (takes_of rfl rfl rfl rfl) fun _ _ _ _ h => h) (ha := (pa_cons (pv 0) (pa_cons (pv 1) pa_nil)))) pa_nil)))) (pss_cons (ps_set (i := 3) sc_law.nd rfl (Or.inl rfl) (pe_fo (ok__law_size C) (hr.mono (by decide)) (by rfl) (passes_call (takes_of rfl rfl rfl rfl) fun _ _ _ _ h => h) (ha := (pa_cons (pv 2) (pa_cons (pe_ix ix_u (pe_lst (pa_cons pe_int (pa_cons pe_int (pa_cons pe_int pa_nil)))) (pe_fo (ok__law_take C) (hr.mono (by decide)) (by rfl) (passes_call (takes_of rfl rfl rfl rfl) fun _ _ _ _ h => h) (ha := (pa_cons (pv 2) (pa_cons pe_int pa_nil)))) (fun _ _ => rfl)) pa_nil))))) (pss_cons (ps_par (by rfl) sc_law.nd rfl rfl (by decide) rfl rfl (pa_cons (pe_mk (ok_Yard_init C) C.mk_Yard C.g_Yard (hr.mono (by decide)) (by rfl) (passes_call (takes_of rfl rfl rfl rfl) fun _ _ _ _ h => h) (ha := (pa_cons (pe_fo (ok__law_plain C) (hr.mono (by decide)) (by rfl) (passes_call (takes_of rfl rfl rfl rfl) fun _ _ _ _ h => h) (ha := (pa_cons (pv 2) (pa_cons (pv 3) pa_nil)))) pa_nil))) (pa_cons (pe_fo (ok__law_pattern C) (hr.mono (by decide)) (by rfl) (passes_call (takes_of rfl rfl rfl rfl) fun _ _ _ _ h => h) (ha := (pa_cons (pv 2) (pa_cons (pv 3) pa_nil)))) pa_nil)) (by rfl)) (pss_cons (ps_set (i := 6) sc_law.nd rfl (Or.inl rfl) (pe_callTy (call_uLst rfl) (by rfl) C.n_list (by decide +kernel) (pa_cons (pv 5) pa_nil))) (pss_cons (ps_for (passes_of rfl) rfl (pi_range1 (by rfl) C.n_range (pa_cons pe_int pa_nil)) (pg_name (i := 7) sc_law.nd rfl (Or.inl rfl)) (pss_cons (ps_set (i := 8) sc_law.nd rfl (Or.inl rfl) (pe_fo (ok__law_word C) (hr.mono (by decide)) (by rfl) (passes_call (takes_of rfl rfl rfl rfl) fun _ _ _ _ h => h) (ha := (pa_cons (pv 2) (pa_cons (pv 3) pa_nil))))) (pss_cons (ps_if (pt_cmpR (op_uNe hu) (pe_callB (call_uReprQ hA hu C.ks) (by rfl) C.n_repr (by decide +kernel) (pa_cons (pe_fo (ok_fits C) (hr.mono (by decide)) (by rfl) (passes_call (takes_of rfl rfl rfl rfl) fun _ _ _ _ h => h) (ha := (pa_cons (pv 4) (pa_cons (pv 5) (pa_cons (pv 8) pa_nil))))) pa_nil)) (pe_callB (call_uReprQ hA hu C.ks) (by rfl) C.n_repr (by decide +kernel) (pa_cons (pe_fo (ok__law_fits C) (hr.mono (by decide)) (by rfl) (passes_call (takes_of rfl rfl rfl rfl) fun _ _ _ _ h => h) (ha := (pa_cons (pv 5) (pa_cons (pv 8) pa_nil)))) pa_nil)) (by rfl)) (pss_one (ps_ret pe_bl)) pss_nil) (pss_cons (ps_set (i := 10) sc_law.nd rfl (Or.inl rfl) (pe_joinU pe_str (pe_lc (own := [("_law_places", 9)]) (g := (gName 9)) (tt := tYes) rfl sc_law.nd (pi_seq (pv 5)) (blkOk_by (N := n_law) (sc := defScope s_law) (by decide +kernel)) (fun _ _ _ _ _ => (pg_name (i := 9) sc_law.nd rfl (Or.inl rfl))) (fun _ _ _ _ _ => pts_nil) (fun _ _ _ _ _ => (pe_ix ix_u (pv 9) (pe_fo (ok__law_take C) (hr.mono (by decide)) (by rfl) passL (ha := (pa_cons (pv 2) (pa_cons (pe_callB call_uLen (by rfl) C.n_len boot_len (pa_cons (pv 9) pa_nil)) pa_nil)))) (fun _ _ => rfl)))))) (pss_cons (ps_if (PW.pt (pw_or (pt_cmpR op_uNis (pe_fo (ok_fits C) (hr.mono (by decide)) (by rfl) (passes_call (takes_of rfl rfl rfl rfl) fun _ _ _ _ h => h) (ha := (pa_cons (pv 4) (pa_cons (pe_callTy (call_uTup rfl) (by rfl) C.n_tuple (by decide +kernel) (pa_cons (pv 5) pa_nil)) (pa_cons (pv 10) pa_nil))))) pe_bl (by rfl)) (pw_or1 (pt_not (pt_val (pe_fn (ok__law_right C) hA (hr.mono (by decide)) (by rfl) (passes_call (takes_of rfl rfl rfl rfl) fun _ _ _ _ h => h) (ha := (pa_cons (pv 2) (pa_cons (pv 4) (pa_cons (pv 5) (pa_cons (pv 8) pa_nil))))))))))) (pss_one (ps_ret pe_bl)) pss_nil) (pss_one (ps_if (pt_not (pt_val (pe_fn (ok__law_very_right C) hA (hr.mono (by decide)) (by rfl) (passes_call (takes_of rfl rfl rfl rfl) fun _ _ _ _ h => h) (ha := (pa_cons (pv 4) (pa_cons (pv 5) (pa_cons (pv 8) pa_nil))))))) (pss_one (ps_ret pe_bl)) pss_nil))))))) (pss_cons (ps_set (i := 11) sc_law.nd rfl (Or.inl rfl) pe_int) (pss_cons (ps_for (passes_of rfl) rfl (pi_seq (pv 5)) (pg_name (i := 9) sc_law.nd rfl (Or.inl rfl)) (pss_one (ps_set (i := 11) sc_law.nd rfl (Or.inl rfl) (pe_op op_uMul (pv 11) (pe_callB call_uLen (by rfl) C.n_len boot_len (pa_cons (pv 9) pa_nil)))))) (pss_cons (ps_if (PW.pt (pw_or (pt_cmpR (op_uNe hu) (pe_callB (call_uReprQ hA hu C.ks) (by rfl) C.n_repr (by decide +kernel) (pa_cons (pe_fo (ok_how_many_fit C) (hr.mono (by decide)) (by rfl) (passes_call (takes_of rfl rfl rfl rfl) fun _ _ _ _ h => h) (ha := (pa_cons (pv 4) (pa_cons (pv 5) pa_nil)))) pa_nil)) (pe_callB (call_uReprQ hA hu C.ks) (by rfl) C.n_repr (by decide +kernel) (pa_cons (pv 11) pa_nil)) (by rfl)) (pw_or1 (pt_cmpR (op_uNe hu) (pv 5) (pv 6) (by rfl))))) (pss_one (ps_ret pe_bl)) pss_nil) (pss_cons (ps_set (i := 12) sc_law.nd rfl (Or.inl rfl) (pe_ix ix_u (pe_lst (pa_cons pe_non (pa_cons pe_int (pa_cons pe_str (pa_cons pe_dnewK (pa_cons pe_bl (pa_cons (pv 6) pa_nil))))))) (pe_fo (ok__law_take C) (hr.mono (by decide)) (by rfl) (passes_call (takes_of rfl rfl rfl rfl) fun _ _ _ _ h => h) (ha := (pa_cons (pv 2) (pa_cons pe_int pa_nil)))) (fun _ _ => rfl))) (pss_cons (ps_for (passes_of rfl) rfl (pi_range1 (by rfl) C.n_range (pa_cons pe_int pa_nil)) (pg_name (i := 13) sc_law.nd rfl (Or.inl rfl)) (pss_one (ps_if (pt_cmpR (op_uNe hu) (pe_callB (call_uReprQ hA hu C.ks) (by rfl) C.n_repr (by decide +kernel) (pa_cons (pe_fn (ok__law_caught C) hA (hr.mono (by decide)) (by rfl) (passes_call (takes_of rfl rfl rfl rfl) fun _ _ _ _ h => h) (ha := (pa_cons (pv 13) (pa_cons (pv 12) (pa_cons (pv 6) (pa_cons pe_non pa_nil)))))) pa_nil)) (pe_callB (call_uReprQ hA hu C.ks) (by rfl) C.n_repr (by decide +kernel) (pa_cons (pe_lst (pa_cons pe_str (pa_cons (pv 12) pa_nil))) pa_nil)) (by rfl)) (pss_one (ps_ret pe_bl)) pss_nil))) (pss_one (ps_for (passes_of rfl) rfl (pi_seq (pe_lst (pa_cons (pe_un un_neg pe_int) (pa_cons pe_bl (pa_cons pe_str (pa_cons (pe_lst (pa_cons pe_int pa_nil)) pa_nil)))))) (pg_name (i := 14) sc_law.nd rfl (Or.inl rfl)) (pss_one (ps_tryT rfl rfl sc_law.nd (takes_of rfl rfl rfl rfl) (fun W pn xe tk po => (pss_cons (ps_expr (pe_foS (ok_home_within C) (hr.mono (by decide)) (by rfl) tk (ha := (pa_cons (pe_mkS (ok_Yard_init C) C.mk_Yard C.g_Yard (hr.mono (by decide)) (by rfl) tk (ha := (pa_cons (pe_op op_uMul (pe_lst (pa_cons (pe_op op_uMul (pe_lst (pa_cons pe_int pa_nil)) pe_int) pa_nil)) pe_int) pa_nil))) (pa_cons pe_str (pa_cons pe_str (pa_cons (pv 14) pa_nil))))))) (pss_one (ps_ret pe_bl)))) (ClsOk.cons (te_name (c := .ref (He.ga K "InvalidCount")) ⟨by rfl, by decide, .inl C.g_InvalidCount⟩) ⟨rfl, rfl⟩ (fun a oe cls d pn hz hf => (pss_one (ps_if (pt_cmpR (op_uNe hu) (pe_callB (call_uReprQ hA hu C.ks) (by rfl) C.n_repr (by decide +kernel) (pa_cons (pe_xv hz hf (pv 15)) pa_nil)) (pe_callB (call_uReprQ hA hu C.ks) (by rfl) C.n_repr (by decide +kernel) (pa_cons (pv 14) pa_nil)) (by rfl)) (pss_one (ps_ret pe_bl)) pss_nil))) ClsOk.nil)))))))))))))))) (pss_one (ps_ret pe_bl)))), read_law C.F C.xf h⟩)
end
end U
open PySem PySem.W PySem.Calls PyProof.Rows
theorem PySem.Challenge.cw_cratetowers_k40_patterns_told_holds : PySem.Challenge.rw_cratetowers_k40_patterns_told.Holds := by
  w_on; o_law
  refine HandSHeadRun.head_any (r := OpenLaw.row PySem.Challenge.rw_cratetowers_k40_patterns_told) (q := view (OpenLaw.row PySem.Challenge.rw_cratetowers_k40_patterns_told).prog [97]) (H := U.hk) (ob := U.ob) (M := 20000) (loose := U.loose) (d := HandSHeadRun.topDef (OpenLaw.row PySem.Challenge.rw_cratetowers_k40_patterns_told).prog 97) (kwd := []) U.ob_eq
    (by kernel_rfl) (fun s => by kernel_rfl) U.run (by kernel_rfl) (by kernel_rfl) (by kernel_rfl) (by rfl) (by first | assumption | decide +kernel) (by decide +kernel) ⟨rfl, rfl, rfl, rfl, rfl, by decide +kernel⟩ ?hw ?hc
  case hw => w_witness2
  case hc =>
    refine U.walk_G (l := PySem.Challenge.rw_cratetowers_k40_patterns_told) (n := 63) (k := 12) (x := "_law_script") ⟨rfl, by decide, by decide⟩ rfl (by decide) (by kernel_rfl) ?F
    intro w mg fa h hmg0 Y G
    obtain ⟨K, KX, c, e⟩ := Y
    have hmg : mg ("law" : PySem.Str) = some (.ref fa) := by
      have e : (HandSHeadRun.topDef (OpenLaw.row PySem.Challenge.rw_cratetowers_k40_patterns_told).prog 97).name = ("law" : PySem.Str) := by kernel_rfl
      rw [← e]
      exact hmg0
    have C := U.ct_of KX G c e
    have e2 := hmg.symm.trans C.g_law
    cases e2
    obtain ⟨fd, F⟩ := c.1.def_ 61 (d := U.d_law) rfl
    have b := L2.FunD.bindsA (ps := ["_law_script"]) F fun _ _ _ _ _ _ us hl => match us, hl with | [_], _ => rfl
    exact ⟨K, U.sp_law0 K, fd, fun s v => b s [v] rfl, KX, fun base _ _ => U.okF_law C F, fun H a ns hl _ hS => ⟨a, ns, rfl, hS, fun _ => rfl⟩⟩

