import PyProof.Rows.All
import Wide.All
import OpenK.AllK
import Wide.FinOn
import KE.KStateDown
import Lean
import HandS.ForMost
import HandS.WordsExc
import HandS.Exc
import HandS.ExcInit
import HandS.IsInst
import HandS.Defaults
import HandS.Wide
import HandS.Style
import HandS.Strs
import HandS.More
import HandS.RaiseMore
import HandS.Flow
import HandS.HeadHook2
import HandS.HeadEnd
import HandS.EndBits
import HandS.StrMore
import PyProof.ReprRoads
import PyProof.Draws
import PyProof.EnumMake
import PyProof.ListStr
import PyProof.TupleOfStr
import HandS.Conv
import PyProof.Rows.StrRev
import HandS.HeadHook3
import PyProof.Rows.StrLast
import Wide.Txt
import HandS.Sort
import HandS.SortInts
import HandS.Small
import HandS.Deep
import KE.KDictSum
import KE.KDictList
import HandS.Zip
import PyProof.StrWalks
import HandS.TryMany
import HandS.ExcField
import HandS.ExcIs
import KE.KTryMore
import KE.KIsAll
import HandS.ExcOwn
import HandS.ClsMeth
import HandS.HeadNt
import PyProof.ReprLen
import HandS.CallLocal
import HandS.OwnEq
import KE.KCallOwn
import KE.GoesMore
import KE.KEqDeep
import PyProof.Rows.ReprShort
import KE.KDictZip
import HandS.DictComp
import HandS.Head0
import HandS.Head1
import HandS.Head2
import HandS.TupAny
import KE.IntTextLaws
import PyProof.StrLawsRepr
import KE.DataMinMax
import KE.KRevSl
import HandS.SortKw
import HandS.WideBits
import KE.GoesZip
import KE.KEqNest
import KE.DatumOrd
import PyProof.NeKinds
import HandS.WordsDict
import HandS.Finally
import KE.KEqDict
import PySem.Challenge.RW_cratetowers_k24_any_two_arrangements
set_option Elab.async false
set_option linter.all false
set_option maxRecDepth 100000
set_option maxHeartbeats 0
namespace U
open PySem PySem.Spec PyProof.Rows L2

/-! ### operators on values, by the values' kinds -/
section
variable {X : Cx}
def uAdd : R2 := fun x y H Q => match x, y with
  | .int i, .int j => Q (.int (i + j)) H
  | .str i, .str j => i.length + j.length ≤ sizeLine ∧ Q (.str (i ++ j)) H
  | .ref a, .ref b => rCat (.ref a) (.ref b) H Q
  | _, _ => False
theorem op_uAdd : OpR X (binaryOp .Add) uAdd := by
  intro pins s σ H x y u v Q I rx ry h
  cases x <;> cases y <;> first
    | exact (show False from h).elim
    | exact op_add pins s σ H _ _ u v Q I rx ry ⟨_, _, rfl, rfl, h⟩
    | exact op_add_str pins s σ H _ _ u v Q I rx ry ⟨_, _, rfl, rfl, h⟩
    | exact op_cat pins s σ H _ _ u v Q I rx ry h
def uSub : R2 := fun x y H Q => match x, y with
  | .int i, .int j => Q (.int (i - j)) H
  | _, _ => False
theorem op_uSub : OpR X (binaryOp .Sub) uSub := by
  intro pins s σ H x y u v Q I rx ry h
  cases x <;> cases y <;> first
    | exact (show False from h).elim
    | exact op_sub pins s σ H _ _ u v Q I rx ry ⟨_, _, rfl, rfl, h⟩
/-- a text, so many times -/
def rMulS : R2 := fun x y H Q => ∃ z n, x = .str z ∧ y = .int n ∧ 0 ≤ n ∧ n ≤ 1000 ∧ z.length ≤ 10000 ∧ Q (.str (Txt.mul z n)) H
theorem op_mulS : OpR X (binaryOp .Mult) rMulS := by
  intro ps s σ H x y v u R I rx ry h
  obtain ⟨z, n, rfl, rfl, h0, h1, h2, q⟩ := h
  obtain ⟨t, rfl⟩ := rx
  obtain ⟨t', rfl⟩ := ry
  refine SB.mul ⟨?_, ?_, ?_⟩ fun t' k => ⟨.str _, H, I.tok _, ⟨_, rfl⟩, q⟩
  · have e1 : ¬ n < -(2 ^ 63 : Int) := by omega
    have e2 : ¬ n ≥ 2 ^ 63 := by omega
    rw [decide_eq_false e1, decide_eq_false e2] <;> rfl
  · intro k1 _ k2
    have e : (z.length : Int) * n ≤ 10000 * 1000 := Int.mul_le_mul (by omega) h1 h0 (by omega)
    have e3 : (z.length : Int) ≤ (2 ^ 63 - 1) / n := Int.le_ediv_of_mul_le (by omega) (by omega)
    omega
  · intro _ _
    have e : z.length * n.toNat ≤ 10000 * 1000 := Nat.mul_le_mul h2 (by omega)
    have hs := sizeLine_eq
    show decide (_ > sizeLine) = false
    exact decide_eq_false (Nat.not_lt.mpr (by omega))
def uMul : R2 := fun x y H Q => match x, y with
  | .int i, .int j => CMul i j ∧ Q (.int (i * j)) H
  | .str z, .int n => 0 ≤ n ∧ n ≤ 1000 ∧ z.length ≤ 10000 ∧ Q (.str (Txt.mul z n)) H
  | .ref a, .int n => rRep (.ref a) (.int n) H Q
  | _, _ => False
theorem op_uMul : OpR X (binaryOp .Mult) uMul := by
  intro pins s σ H x y u v Q I rx ry h
  cases x <;> cases y <;> first
    | exact (show False from h).elim
    | exact op_mul pins s σ H _ _ u v Q I rx ry ⟨_, _, rfl, rfl, h⟩
    | exact op_mulS pins s σ H _ _ u v Q I rx ry ⟨_, _, rfl, rfl, h⟩
    | exact op_rep pins s σ H _ _ u v Q I rx ry h
def uDiv : R2 := fun x y H Q => match x, y with
  | .int i, .int j => CDivW i j ∧ Q (.int (i / j)) H
  | _, _ => False
theorem op_uDiv : OpR X (binaryOp .FloorDiv) uDiv := by
  intro pins s σ H x y u v Q I rx ry h
  cases x <;> cases y <;> first
    | exact (show False from h).elim
    | exact op_fdivW pins s σ H _ _ u v Q I rx ry ⟨_, _, rfl, rfl, h⟩
def uMod : R2 := fun x y H Q => match x, y with
  | .int i, .int j => 0 < j ∧ Q (.int (i % j)) H
  | _, _ => False
theorem op_uMod : OpR X (binaryOp .Mod) uMod := by
  intro pins s σ H x y u v Q I rx ry h
  cases x <;> cases y <;> first
    | exact (show False from h).elim
    | exact op_mod pins s σ H _ _ u v Q I rx ry ⟨_, _, rfl, rfl, h⟩
def uPow : R2 := fun x y H Q => match x, y with
  | .int i, .int j => CPow i j ∧ Q (.int (i ^ j.toNat)) H
  | _, _ => False
theorem op_uPow : OpR X (binaryOp .Pow) uPow := by
  intro pins s σ H x y u v Q I rx ry h
  cases x <;> cases y <;> first
    | exact (show False from h).elim
    | exact op_pow pins s σ H _ _ u v Q I rx ry ⟨_, _, rfl, rfl, h⟩
/-! comparisons -/
def uEq (K : PySem.W.Frag) : R2 := fun x y H Q => match x, y with
  | .ref a, y => rEqD K (.ref a) y H Q
  | .int i, .int j => Q (.bl (decide (i = j))) H
  | .str i, .str j => Q (.bl (decide (i = j))) H
  | .non, y => rEq .non y H Q
  | .bl b, y => rEq (.bl b) y H Q
  | .int i, .non => Q (.bl false) H
  | .str i, .non => Q (.bl false) H
  | _, _ => False
theorem op_uEq (hu : X.A.units + 64 < cLine) : OpR X (compareOp .Eq) (uEq X.K) := by
  intro pins s σ H x y u v Q I rx ry h
  cases x <;> cases y <;> first
    | exact (show False from h).elim
    | exact op_eqD hu pins s σ H _ _ u v Q I rx ry h
    | exact op_eq pins s σ H _ _ u v Q I rx ry h
    | exact op_eq pins s σ H _ _ u v Q I rx ry ⟨rfl, by simpa [uEq] using h⟩
def uNe (K : PySem.W.Frag) : R2 := fun x y H Q => match x, y with
  | .ref a, y => rNeD K (.ref a) y H Q
  | .int i, .int j => Q (.bl (!decide (i = j))) H
  | .str i, .str j => Q (.bl (!decide (i = j))) H
  | .non, y => rNe .non y H Q
  | .bl b, y => rNe (.bl b) y H Q
  | .int i, .non => Q (.bl true) H
  | .str i, .non => Q (.bl true) H
  | _, _ => False
theorem op_uNe (hu : X.A.units + 64 < cLine) : OpR X (compareOp .NotEq) (uNe X.K) := by
  intro pins s σ H x y u v Q I rx ry h
  cases x <;> cases y <;> first
    | exact (show False from h).elim
    | exact op_neD hu pins s σ H _ _ u v Q I rx ry h
    | exact op_ne pins s σ H _ _ u v Q I rx ry h
    | exact op_ne pins s σ H _ _ u v Q I rx ry ⟨rfl, by simpa [uNe] using h⟩
def uCmp (p : Int → Int → Bool) : R2 := fun x y H Q => match x, y with
  | .int i, .int j => Q (.bl (p i j)) H
  | _, _ => False
theorem uCmp_of {f : Value → Value → Sem Value} {p : Int → Int → Bool} (h : OpR X f (rI0 fun i j => .bl (p i j))) : OpR X f (uCmp p) := by
  intro pins s σ H x y u v Q I rx ry q
  cases x <;> cases y <;> first
    | exact (show False from q).elim
    | exact h pins s σ H _ _ u v Q I rx ry ⟨_, _, rfl, rfl, q⟩
abbrev uLt : R2 := uCmp fun i j => decide (i < j)
abbrev uLe : R2 := uCmp fun i j => decide (i ≤ j)
abbrev uGt : R2 := uCmp fun i j => decide (j < i)
abbrev uGe : R2 := uCmp fun i j => decide (j ≤ i)
theorem op_uLt : OpR X (compareOp .Lt) uLt := uCmp_of op_lt
theorem op_uLe : OpR X (compareOp .LtE) uLe := uCmp_of op_le
theorem op_uGt : OpR X (compareOp .Gt) uGt := uCmp_of op_gt
def uIs : R2 := fun x y H Q => match y with
  | .non => Q (.bl (decide (x = .non))) H
  | .bl b => (match x with
    | .bl a => Q (.bl (decide (a = b))) H
    | _ => False)
  | _ => False
theorem op_uIs : OpR X (compareOp .Is) uIs := by
  intro pins s σ H x y u v Q I rx ry h
  cases y <;> try exact (show False from h).elim
  · exact op_isN pins s σ H _ _ u v Q I rx ry ⟨rfl, h⟩
  · cases x <;> try exact (show False from h).elim
    exact op_isBl pins s σ H _ _ u v Q I rx ry ⟨_, _, rfl, rfl, h⟩
def uNis : R2 := fun x y H Q => match y with
  | .non => Q (.bl (!decide (x = .non))) H
  | .bl b => (match x with
    | .bl a => Q (.bl (!decide (a = b))) H
    | _ => False)
  | _ => False
theorem op_uNis : OpR X (compareOp .IsNot) uNis := by
  intro pins s σ H x y u v Q I rx ry h
  cases y <;> try exact (show False from h).elim
  · exact op_notN pins s σ H _ _ u v Q I rx ry ⟨rfl, h⟩
  · cases x <;> try exact (show False from h).elim
    exact op_notBl pins s σ H _ _ u v Q I rx ry ⟨_, _, rfl, rfl, h⟩
def uIn (K : PySem.W.Frag) (neg : Bool) : R2 := fun x y H Q => match y with
  | .ref p => rIn K neg x (.ref p) H Q
  | .str z => (match x with
    | .str i => Q (.bl (if neg then !(!(Builtin.Str.occurrences z i 0 z.length 1).isEmpty) else !(Builtin.Str.occurrences z i 0 z.length 1).isEmpty)) H
    | _ => False)
  | _ => False
theorem op_uIn : OpR X (compareOp .In) (uIn X.K false) := by
  intro pins s σ H x y u v Q I rx ry h
  cases y <;> try exact (show False from h).elim
  · cases x <;> try exact (show False from h).elim
    exact op_in_str pins s σ H _ _ u v Q I rx ry ⟨_, _, rfl, rfl, h⟩
  · exact op_in_seq pins s σ H _ _ u v Q I rx ry h
theorem op_uNin : OpR X (compareOp .NotIn) (uIn X.K true) := by
  intro pins s σ H x y u v Q I rx ry h
  cases y <;> try exact (show False from h).elim
  · cases x <;> try exact (show False from h).elim
    exact op_notIn_str pins s σ H _ _ u v Q I rx ry ⟨_, _, rfl, rfl, h⟩
  · exact op_notIn_seq pins s σ H _ _ u v Q I rx ry h
/-! subscripts -/
def uIx (K : PySem.W.Frag) : R2 := fun x y H Q => match x, y with
  | .str z, .int i => z.length ≤ sizeLine ∧ ∃ c, atI z.cps.toList i = some c ∧ Q (.str ⟨#[c]⟩) H
  | .ref p, .int i => ∃ xs v, (SqL K H p xs ∨ SqT K H p xs) ∧ atI xs i = some v ∧ Q v H
  | _, _ => False
theorem ix_u : IxR X (uIx X.K) := by
  intro ea eb pins s σ H x y u v Q I rx ry h
  cases x <;> cases y <;> try exact (show False from h).elim
  · obtain ⟨h1, c, h2, q⟩ := h
    exact ix_str ea eb pins s σ H _ _ u v Q I rx ry ⟨_, _, c, rfl, rfl, h1, h2, q⟩
  · obtain ⟨xs, z, hs | hs, h2, q⟩ := h
    · exact ix_list ea eb pins s σ H _ _ u v Q I rx ry ⟨_, xs, _, z, rfl, rfl, hs, h2, q⟩
    · exact ix_tup ea eb pins s σ H _ _ u v Q I rx ry ⟨_, xs, _, z, rfl, rfl, hs, h2, q⟩
def uSl (K : PySem.W.Frag) : V → Option Int → Option Int → Hp → VK → Prop := fun x lo hi H Q => match x with
  | .str z => z.length ≤ sizeLine ∧ Q (.str (cutS z lo hi)) H
  | .ref a => rSlL K (.ref a) lo hi H Q ∨ rSlT K (.ref a) lo hi H Q
  | _ => False
theorem sl_u : SlR X (uSl X.K) := by
  intro pins s σ H x v sl lo hi ulo uhi Q I rx hsl hlo hhi h
  cases x <;> try exact (show False from h).elim
  · exact sl_str pins s σ H _ v sl lo hi ulo uhi Q I rx hsl hlo hhi ⟨_, rfl, h⟩
  · rcases h with h | h
    · exact sl_list pins s σ H _ v sl lo hi ulo uhi Q I rx hsl hlo hhi h
    · exact sl_tup pins s σ H _ v sl lo hi ulo uhi Q I rx hsl hlo hhi h
/-! calls -/
def uLen (K : PySem.W.Frag) : List V → Hp → VK → Prop := fun xs H Q => match xs with
  | [.str z] => z.length ≤ sizeLine ∧ Q (.int z.length) H
  | [.ref p] => ∃ ys, (SqL K H p ys ∨ SqT K H p ys) ∧ Q (.int ys.length) H
  | _ => False
theorem call_uLen : CallR X (.builtin "len") (uLen X.K) := by
  intro ps s σ H xs us R I r h
  match xs, h with
  | [.str z], h => exact call_len_str ps s σ H _ us R I r ⟨_, rfl, h⟩
  | [.ref p], h =>
    obtain ⟨ys, hs, q⟩ := h
    exact call_len_seq ps s σ H _ us R I r ⟨p, ys, rfl, hs, q⟩
def uIsi (K : PySem.W.Frag) : List V → Hp → VK → Prop := fun xs H Q => match xs with
  | [x, .ty T] => ∃ t b, TyX K H x t ∧ PySem.W.kitOne K t (.type T) = some b ∧ Q (.bl b) H
  | [x, .ref c] => (∃ t b, TyX K H x t ∧ PySem.W.kitOne K t (.ref c) = some b ∧ Q (.bl b) H) ∨ ∃ cs us t b, H c = some (.tup cs) ∧ Paired ClsV cs us ∧ TyX K H x t ∧ PySem.W.kitAny K t us = some b ∧ Q (.bl b) H
  | _ => False
theorem call_uIsi : CallR X (.builtin "isinstance") (uIsi X.K) := by
  intro ps s σ H xs us R I r h
  match xs, h with
  | [x, .ty T], h =>
    obtain ⟨t, b, h1, h2, q⟩ := h
    exact call_isi ps s σ H _ us R I r ⟨x, _, t, _, b, rfl, .ty T, h1, h2, q⟩
  | [x, .ref c], h =>
    rcases h with ⟨t, b, h1, h2, q⟩ | ⟨cs, ws, t, b, h0, h3, h1, h2, q⟩
    · exact call_isi ps s σ H _ us R I r ⟨x, _, t, _, b, rfl, .own c, h1, h2, q⟩
    · exact call_isiT ps s σ H _ us R I r ⟨x, c, cs, t, ws, b, rfl, h0, h3, h1, h2, q⟩
/-- len of an instance whose class has its own __len__ -/
def rLenO (C : Addr) (sp : Sp) : List V → Hp → VK → Prop := fun xs H Q => ∃ a dx fs, xs = [.ref a] ∧ H a = some (.ins C dx fs) ∧ sp [.ref a] H (fun v H' => ∃ n : Int, v = .int n ∧ 0 ≤ n ∧ n < 2 ^ 63 ∧ Q (.int n) H') E0
theorem call_lenO {k : Nat} {C f : Addr} {fd : FuncData} {ps : List Str} {sp : Sp} (F : FnOk X.prog X.w X.K X.mg X.base (L2.CX X.prog X.w) k f fd ps sp) (m : Meth X.K C "__len__" f) (hr : Room (k + 1) X.A) (hb : Binds X.K fd ps []) :
    CallR X (.builtin "len") (rLenO C sp) := by
  intro ps' s σ H xs us R I r h
  obtain ⟨a, dx, fs, rfl, ea, h⟩ := h
  obtain rfl := Vals.ref1 r
  obtain ⟨_, O, _⟩ := ins_get I.hok ea
  obtain ⟨od, J, _⟩ := O.look
  obtain ⟨m', hF⟩ := I.fr
  refine PySem.W.len_K hF I.ok.mod.kin J m.at_ m.fn ?_
  have e0 : Env0 X.prog X.w X.K X.mg X.base X.A.in1 X.stack s H := I.env0.in1
  have hl := F.len _ _ _ _ h
  have r2 : Vals [.ref a] [.ref a] := (.cons (by rfl) .nil)
  refine wpAny_call (codeAny_mono (F.run X.A.in1 X.stack s H ⟨[.ref a], []⟩ [.ref a] [.ref a] _ E0 hr.in1 e0 (by
    have := hb s [.ref a] I.kIn (by simpa using hl)
    simpa using this) r2 h) fun r s' hq => ?_)
  cases r with
  | error e => exact passL ps' σ H s e s' I hq
  | ok fl =>
    cases fl with
    | ret w =>
      obtain ⟨z, H', I', rz, n, ez, h0, h1, q⟩ := I.after hq
      subst ez
      obtain ⟨t, rfl⟩ := rz
      exact ⟨⟨h0, h1⟩, ⟨.int n, H', I'.tok _, ⟨_, rfl⟩, q⟩⟩
    | next => exact False.elim hq
    | brk => exact False.elim hq
    | cont => exact False.elim hq
end
end U
namespace U
open PySem PySem.Spec PyProof.Rows L2

/-! ### promises kept where no text of a container is being made -/
structure FnG (P : Program) (w : World) (K : PySem.W.Frag) (mg : Str → Option Value) (base : Heap) (k : Nat) (f : Addr) (fd : FuncData) (ps : List Str) (sp : Sp) : Prop where
  len : ∀ (vs : List V) (H : Hp) (Q : VK) (E : XK), sp vs H Q E → vs.length = ps.length
  go : ∀ A : Around, A.guards = some [] → ∀ (outer : List Env) (s : Shared) (H : Hp) (ar : Args) (us : List Value) (vs : List V) (Q : VK) (E : XK),
    Room k A → Env0 P w K mg base A outer s H → BindsTo s fd ar (ps.zip us) → Vals vs us → sp vs H Q E → codeAny (model P w) A (.call (.ref f) ar) (CR (L2.CX P w) outer P w H s Q E) s
section
variable {P : Program} {w : World} {K : PySem.W.Frag} {mg : Str → Option Value} {base : Heap}
/-- a def by its body -/
theorem fnG_of {x qual : Str} {pa : Arguments} {bd : List Stmt} {sc : Scope} {f : Addr} {fd : FuncData} {N ps : List Str} {k : Nat} {sp : Sp} (F : FunD K x qual pa bd sc [] [] f fd) (S : FnScope N ps sc) (hlen : ∀ vs H Q E, sp vs H Q E → vs.length = ps.length)
    (hb : ∀ (cdv : Value) (A : Around) (outer : List Env) (s : Shared) (H : Hp) (vs : List V) (Q : VK) (E : XK), A.guards = some [] → Room k (A.deeper (envOfC qual sc s.heap.objs.size f cdv)) → sp vs H Q E →
      ∃ t, PSs (cxOf (L2.CX P w) P w K mg base N qual sc f cdv A outer s H E) bd t ∧ t { nx := fun _ H' => Q .non H', rt := Q } (start N vs) H) : FnG P w K mg base (k + 1) f fd ps sp := by
  obtain ⟨oc, od, dV, kV, doc, pm, an, cdv, ct, osl, hfd, hlk, hcode, _, _⟩ := F.ex
  subst hfd
  refine ⟨hlen, fun A hA outer s H ar us vs Q E room env bnd vls prom => ?_⟩
  have len1 := hlen _ _ _ _ prom
  have kin : K.In s.heap := e_kin env
  have nol : s.heap.NoLimit := env.mod.nolimit.keeps fun b o z => (env.bs b o z).1
  refine codeAny_call_function room.depth (kin _ _ hlk) rfl S.co S.gen rfl (PySem.W.codeRec_of kin hcode) (bnd _ _ _ _ ?_)
  refine wpAny_newFunctionEnv_cells S.kind (kinds_of S) fun en hen s1 ic => ?_
  cases hen
  refine ⟨nol.keeps ic.toInCall.keep, codeAny_func ?_⟩
  obtain ⟨t, der, rd⟩ := hb cdv A outer s H vs Q E hA (room.deeper _) prom
  have inv0 := inv_start (CX := L2.CX P w) (E := E) S room.hd env len1 vls ic
  refine wpAny_mono (der.run [] s1 (start N vs) H _ inv0 rd) (fun fl s' out => ?_) fun _ _ z => z
  match fl, out with
  | .ret u, ⟨v, σ', H', J, rv, q⟩ => exact ⟨v, H', J.os, J.bare, J.base, J.hok, rv, q⟩
  | .next, ⟨σ', H', J, q⟩ => exact ⟨.non, H', J.os, J.bare, J.base, J.hok, rfl, q⟩
  | .brk, ⟨_, _, _, q⟩ => exact q.elim
  | .cont, ⟨_, _, _, q⟩ => exact q.elim
where
  e_kin {A : Around} {outer : List Env} {s : Shared} {H : Hp} (env : Env0 P w K mg base A outer s H) : K.In s.heap := env.mod.kin.keeps fun b o z => (env.bs b o z).1
  kinds_of {N ps : List Str} {sc : Scope} (S : FnScope N ps sc) {n : Nat} {us : List Value} : ∀ y ∈ ps.zip us, sc.names.lookup y.1 = some .local ∨ (sc.names.lookup y.1 = some .cell ∧ ((cellsFrom n sc.names []).lookup y.1).isSome = true) :=
    fun y hy => (S.par y.1 (List.of_mem_zip (a := y.1) (b := y.2) hy).1).imp id fun q => ⟨q, PySem.W.cellsFrom_some _ _ _ (.inl q)⟩
end

/-! ### a def of the module under its name -/
structure Good (P : Program) (w : World) (K : PySem.W.Frag) (mg : Str → Option Value) (base : Heap) (k : Nat) (x : Str) (ps : List Str) (sp : Sp) : Prop where
  fn : ∃ fd, FnG P w K mg base k (He.ga K x) fd ps sp ∧ Binds K fd ps []
  mg : mg x = some (.ref (He.ga K x))
  kp : PySem.W.keepIn K (.ref (He.ga K x)) = true
/-- a method that asks no text of a container -/
structure GoodM (P : Program) (w : World) (K : PySem.W.Frag) (mg : Str → Option Value) (base : Heap) (k : Nat) (C m : Str) (ps : List Str) (sp : Sp) : Prop where
  fn : ∃ fd, FnOk P w K mg base (L2.CX P w) k (He.ma K (He.ga K C) m) fd ps sp ∧ Binds K fd ps []
  mt : Meth K (He.ga K C) m (He.ma K (He.ga K C) m)
  cl : Cls K (He.ga K C)
/-- f(..) -/
def tFn (sp : Sp) (E : XK) (t : TA) : TE := fun σ H Q => t σ H fun vs H1 => sp vs H1 Q E
section
variable {X : Cx} {k : Nat} {x m : Str} {ps : List Str} {sp : Sp} {E : XK} {p pos apos : Pos} {e o : Expr} {es : List Expr} {ta : TE} {t : TA}
theorem run_G {f : Addr} {fd : FuncData} {pins : List (Addr × Obj)} {σ : L2.St} {H : Hp} {s : Shared} {Q : VK} {us : List Value} {vs : List V} (F : FnG X.prog X.w X.K X.mg X.base k f fd ps sp) (hA : X.A.guards = some []) (hr : Room k X.A) (hb : Binds X.K fd ps [])
    (hx : Passes (L2.CX X.prog X.w) X E) (I : Inv X pins σ H s) (r : Vals vs us) (h : sp vs H Q E) : wpAny (model X.prog X.w) X.A (call (.ref f) us) (EP X pins σ Q) X.xe s := by
  have hl : (us ++ []).length = ps.length := by rw [List.append_nil, ← r.length]; exact F.len _ _ _ _ h
  have bb := hb s us I.kIn hl
  rw [List.append_nil] at bb
  refine wpAny_call (codeAny_mono (F.go X.A hA X.stack s H ⟨us, []⟩ us vs Q E hr I.env0 bb r h) fun res s' out => ?_)
  match res, out with
  | .error er, out => exact hx pins σ H s er s' I out
  | .ok (.ret u), out => exact I.after out
  | .ok .next, out => exact False.elim out
  | .ok .brk, out => exact False.elim out
  | .ok .cont, out => exact False.elim out
theorem pe_fn (g : Good X.prog X.w X.K X.mg X.base k x ps sp) (hA : X.A.guards = some []) (hr : Room k X.A) (hg : Gl X x) (hx : Passes (L2.CX X.prog X.w) X E)
    (hpl : (backTo pos (starEach es X.env)).any (·.1) = false := by rfl) (he : starEach (e :: es) X.env = (false, eval e X.env) :: starEach es X.env := by rfl) (ha : PA X (e :: es) t)
    (hdb : (x == ("__debug__" : Str)) = false := by decide) :
    PE X (.Call (.Name x p) (e :: es) [] pos) (tFn sp E t) := by
  obtain ⟨fd, F, hb⟩ := g.fn
  refine ⟨fun pins s σ H Q I h => ?_⟩
  refine wpAny_Call_Name_kw (ld_glob I hg g.mg ?_ hdb)
  exact PySem.W.callWith_K (h₀ := X.base) I.ok.mod.kin g.kp (thn (ha.run pos pins s σ H _ I h) fun us s1 z => by
    obtain ⟨vs, H1, I1, r, q⟩ := z
    exact ⟨I1.kIn, run_G F hA hr hb hx I1 r q⟩) he hpl
end

/-! ### a law's end -/
section
variable {P : Program} {w : World} {K : PySem.W.Frag} {mg mb : Str → Option Value} {k : Nat} {fa a : Addr} {fd : FuncData} {x : Str} {sp : Sp} {s1 : Shared} {vs : List Value} {ns : List Int}
/-- the script alone is tracked, locked, or nothing is -/
def One (a : Addr) (o : Obj) (xs : List V) (H : Hp) : Prop := ∀ b, H b = none ∨ (b = a ∧ H b = some (.frz o (.lst xs)))
theorem end_from (H : Hp) (o : Obj) (ho : s1.heap.get? a = some o) (hod : ∃ its n, o.data = .seq its n) (one : One a o (ns.map V.int) H) (hK : H a ≠ none → K.lookup a = none) (hok : HOk P w H s1.heap)
    (KX : K.In s1.heap) (hns : s1.heap.Ns mainGlobals mg) (hb : s1.heap.Ns builtinsNs mb) (hbb : ∀ x : Str, x ≠ "__name__" → mb x = bootBuiltins x) (hlim : s1.heap.NoLimit) (hg : s1.gens = #[]) (hr : Room k callerA)
    (F : ∀ base : Heap, K.In base → base.Ns mainGlobals mg → FnG P w K mg base k fa fd [x] sp) (hbind : ∀ (s : Shared) (u : Value), BindsTo s fd ⟨[u], []⟩ [(x, u)])
    (hsp : sp [.ref a] H (fun v _ => v = .bl true) fun _ _ _ => False) :
    codeAny (model P w) callerA (.call (.ref fa) ⟨[.ref a], []⟩) (fun r s' => r = .ok (.ret (.bool true)) ∧ OldK s1.heap s'.heap ∧ s'.os = s1.os ∧ AllBare s'.gens) s1 := by
  have only_a : ∀ b, b ≠ a → H b = none := fun b hb => (one b).elim id fun z => absurd z.1 hb
  have dict_free : ∀ b ob es ep, s1.heap.get? b = some ob → ob.data = .dict es ep → H b = none := fun b ob es ep e d => by
    by_cases q : b = a
    · obtain ⟨its, n, hd⟩ := hod
      rw [q, ho] at e
      rw [← Option.some.inj e, hd] at d
      cases d
    · exact only_a b q
  have ns_low : ∀ b (m : Str → Option Value), s1.heap.Ns b m → (hidT s1.heap H).Ns b m := fun b m z => by
    obtain ⟨ob, es, ep, e, d, r⟩ := z
    exact ⟨ob, es, ep, hidT_get e (dict_free b ob es ep e d), d, r⟩
  have k_low : K.In (hidT s1.heap H) := fun b ob e => by
    refine hidT_get (KX b ob e) ?_
    by_cases q : b = a
    · cases z : H b with
      | none => rfl
      | some u =>
        have y := hK (by rw [← q, z]; simp)
        rw [q, y] at e
        cases e
    · exact only_a b q
  obtain ⟨mc, l1, l2⟩ := hlim
  have md : Mod K mg (hidT s1.heap H) := ⟨k_low, ns_low _ _ hns, ⟨mb, ns_low _ _ hb, hbb⟩, ⟨mc, ns_low _ _ l1, l2⟩⟩
  have env : Env0 P w K mg (hidT s1.heap H) callerA [] s1 H :=
    { frames := rfl, mod := md, bs := fun b ob e => of_hidT e, bsz := Nat.le_of_eq (hidT_size _ _), funs := trivial, frf := fun b z => absurd z (by simp [frs]), hok := hok, bare := .of_eq hg }
  refine codeAny_mono ((F _ k_low (ns_low _ _ hns)).go callerA rfl [] s1 H ⟨[.ref a], []⟩ [.ref a] [.ref a] _ _ hr env (hbind s1 (.ref a)) (.cons rfl .nil) hsp) fun res s' out => ?_
  match res, out with
  | .error er, out =>
    obtain ⟨_, _, _, _, _, _, _, _, _, _, _, _, z⟩ := out
    exact z.elim
  | .ok .next, out => exact False.elim out
  | .ok .brk, out => exact False.elim out
  | .ok .cont, out => exact False.elim out
  | .ok (.ret u), out =>
    obtain ⟨v, H', eos, bare, un, hok', rv, ev⟩ := out
    have ev' : v = .bl true := ev
    subst ev'
    have eu : u = Value.bool true := rv
    refine ⟨by rw [eu], OldK.of_keep fun b ob e => ?_, eos, bare⟩
    rcases one b with q | ⟨q, z⟩
    · exact un.keep b ob e q (by simp [frs]) (by simp)
    · have z2 := un.frzs b _ _ z
      have y1 := (hok' b _ z2).1
      have y2 := (hok b _ z).1
      rw [← y2.symm.trans e |> Option.some.inj]
      exact y1
theorem end_G (KX : K.In s1.heap) (hns : s1.heap.Ns mainGlobals mg) (hb : s1.heap.Ns builtinsNs mb) (hbb : ∀ x : Str, x ≠ "__name__" → mb x = bootBuiltins x) (hlim : s1.heap.NoLimit) (hg : s1.gens = #[])
    (ha : s1.heap.get? a = some { cls := .type "list", data := .seq vs.toArray }) (hi : IntsAre vs ns) (hl : ns.length ≤ sizeLine) (hr : Room k callerA)
    (F : ∀ base : Heap, K.In base → base.Ns mainGlobals mg → FnG P w K mg base k fa fd [x] sp) (hbind : ∀ (s : Shared) (u : Value), BindsTo s fd ⟨[u], []⟩ [(x, u)])
    (hsp : ∀ H : Hp, (∀ b, H b = none ∨ ∃ o xs, H b = some (.frz o (.lst xs))) → SqL K H a (ns.map V.int) → sp [.ref a] H (fun v _ => v = .bl true) fun _ _ _ => False) :
    codeAny (model P w) callerA (.call (.ref fa) ⟨[.ref a], []⟩) (fun r s' => r = .ok (.ret (.bool true)) ∧ OldK s1.heap s'.heap ∧ s'.os = s1.os ∧ AllBare s'.gens) s1 := by
  have vv := vals_ints hi
  have ll := hi.length
  cases q : K.lookup a with
  | none =>
    have at_a : (fun b => if b = a then some (HO.frz { cls := .type "list", data := .seq vs.toArray } (.lst (ns.map V.int))) else none : Hp) a = some (.frz { cls := .type "list", data := .seq vs.toArray } (.lst (ns.map V.int))) := if_pos rfl
    have one : One a { cls := .type "list", data := .seq vs.toArray } (ns.map V.int) (fun b => if b = a then some (HO.frz { cls := .type "list", data := .seq vs.toArray } (.lst (ns.map V.int))) else none) := fun b => by
      by_cases e : b = a
      · exact .inr ⟨e, if_pos e⟩
      · exact .inl (if_neg e)
    refine end_from _ _ ha ⟨_, _, rfl⟩ one (fun _ => q) (fun b u z => ?_) KX hns hb hbb hlim hg hr F hbind (hsp _ (fun b => (one b).imp id fun z => ⟨_, _, z.2⟩) (.inl (.inr ⟨_, at_a⟩)))
    rcases one b with y | ⟨e, y⟩
    · cases y.symm.trans z
    · cases y.symm.trans z
      subst e
      exact ⟨ha, by rw [List.length_map]; exact hl, vs, _, vv, ha⟩
  | some ob =>
    have e := (KX a ob q).symm.trans ha
    have e2 := Option.some.inj e
    subst e2
    refine end_from (ns := ns) (fun _ => none) _ ha ⟨_, _, rfl⟩ (fun _ => .inl rfl) (fun z => absurd rfl z) (fun b u z => by cases z) KX hns hb hbb hlim hg hr F hbind
      (hsp _ (fun _ => .inl rfl) (.inr ⟨_, vs.toArray, _, q, rfl, rfl, rfl, by rw [List.size_toArray, ll]; exact hl, by simpa using vv⟩))
end
/-- a law from its head's facts, its def's promise kept where no text is under way -/
structure Owed (P : Program) (w : World) (h : Heap) (mg : Str → Option Value) (fa : Addr) (n k : Nat) (x : Str) : Prop where
  own : ∃ (K : PySem.W.Frag) (sp : Sp) (fd : FuncData), (∀ (s : Shared) (v : Value), BindsTo s fd ⟨[v], []⟩ [(x, v)]) ∧ K.In h ∧ (∀ base : Heap, K.In base → base.Ns mainGlobals mg → FnG P w K mg base k fa fd [x] sp) ∧
    ∀ (H : Hp) (a : Addr) (ns : List Int), ns.length ≤ n → (∀ z ∈ ns, Builtin.Int.intBits z ≤ 1048576) → SqL K H a (ns.map V.int) → sp [.ref a] H (fun v _ => v = .bl true) fun _ _ _ => False
theorem walk_G {l : PySem.W.OpenLaw} {n k : Nat} {q : Program} {loose : List Str} {XP : (Str → Option Value) → Heap → Prop} {YP : World → Heap → Prop} {d : DefRec} {x : Str} (room : Room k callerA) (most : l.most = some n) (fits : n ≤ sizeLine) (nodef : d.params.defaults = [])
    (owed : ∀ (w : World) (mg : Str → Option Value) (fa : Addr) (h : Heap), mg d.name = some (.ref fa) → YP w h → h.Ns mainGlobals mg → Owed l.prog w h mg fa n k x) : PySem.W.WalkO q loose XP YP l.row.toRowW d [] fun f vs => PySem.call f vs := by
  refine Att.attach_callB most nodef fun w s0 s1 mg mb fa o pm cd doc a vs ns G Y ho hd hcd named hobj hints hlen hbits hg => ?_
  obtain ⟨K, sp, fd, binds, kin, keeps, asks⟩ := (owed w mg fa _ named Y G.T.g).own
  exact end_G kin G.T.g G.T.b G.T.builtins G.T.nolimit hg hobj hints (Nat.le_trans hlen fits) room keeps binds fun H _ hS => asks H a ns hlen hbits hS
end U
namespace U
open PySem PySem.Spec PyProof.Rows L2

section
variable {X : Cx} {p pos apos : Pos} {e o : Expr} {es : List Expr} {t ta : TA} {te : TE}
/-! ### module constants -/
theorem pe_int_of {x : Str} {i : Int} (hg : Gl X x) (h : ∃ t, X.mg x = some (.int i t)) (hd : (x == ("__debug__" : Str)) = false := by decide) : PE X (.Name x pos) (tC (.int i)) := by
  obtain ⟨t, h⟩ := h
  exact pe_glob hg h ⟨t, rfl⟩ hd
theorem pe_str_of {x z : Str} (hg : Gl X x) (h : ∃ t, X.mg x = some (.str z t)) (hd : (x == ("__debug__" : Str)) = false := by decide) : PE X (.Name x pos) (tC (.str z)) := by
  obtain ⟨t, h⟩ := h
  exact pe_glob hg h ⟨t, rfl⟩ hd
/-! ### objects of one's own class -/
theorem pe_mk {k : Nat} {x : Str} {ps : List Str} {sp : Sp} {E : XK} (g : GoodM X.prog X.w X.K X.mg X.base k x "__init__" ps sp) (M : Mk X.K (He.ga X.K x) (He.ma X.K (He.ga X.K x) "__init__")) (hm : X.mg x = some (.ref (He.ga X.K x))) (hr : Room (k + 1) X.A) (hg : Gl X x) (hx : Passes (L2.CX X.prog X.w) X E)
    (hpl : (backTo pos (starEach es X.env)).any (·.1) = false := by rfl) (he : starEach (e :: es) X.env = (false, eval e X.env) :: starEach es X.env := by rfl) (ha : PA X (e :: es) t)
    (hdb : (x == ("__debug__" : Str)) = false := by decide) :
    PE X (.Call (.Name x p) (e :: es) [] pos) (tMake (He.ga X.K x) sp [] E t) := by
  obtain ⟨fd, F, hb⟩ := g.fn
  exact pe_make M F hr hg hm hb .nil hx ha hdb he hpl
theorem pe_lenY {k : Nat} {C : Str} {ps : List Str} {sp : Sp} (g : GoodM X.prog X.w X.K X.mg X.base k C "__len__" ps sp) (hr : Room (k + 1) X.A) (hg : Gl X "len") (hm : X.mg "len" = none) (ha : PA X [e] t)
    (he : starEach [e] X.env = [(false, eval e X.env)] := by rfl) : PE X (.Call (.Name "len" p) [e] [] pos) (tCB (rLenO (He.ga X.K C) sp) t) := by
  obtain ⟨fd, F, hb⟩ := g.fn
  exact pe_callB (es := []) (call_lenO F g.mt hr hb) hg hm boot_len ha (he := he)
/-! ### built-ins under short names -/
def uMax2 : List V → Hp → VK → Prop := fun xs H Q => ∃ i j, xs = [.int i, .int j] ∧ Q (.int (if j > i then j else i)) H
def uMin2 : List V → Hp → VK → Prop := fun xs H Q => ∃ i j, xs = [.int i, .int j] ∧ Q (.int (if j < i then j else i)) H
def rInt : List V → Hp → VK → Prop := fun xs H Q => (∃ i, xs = [.int i] ∧ Q (.int i) H) ∨ ∃ k, xs = [.bl k] ∧ Q (.int (if k then 1 else 0)) H
/-! ### the text of a value -/
def uRepr (K : PySem.W.Frag) : List V → Hp → VK → Prop := fun xs H Q => match xs with
  | [.int i] => i.natAbs.log2 < 1920 ∧ Q (.str (toString i)) H
  | [.non] => Q (.str "None") H
  | [.bl b] => Q (.str (if b then "True" else "False")) H
  | [.str z] => (reprText z).length ≤ sizeLine ∧ Q (.str (reprText z)) H
  | [.ref a] => ∃ d, Dp K H (.ref a) d ∧ d.showable = true ∧ d.hasDict = false ∧ d.depth ≤ 60 ∧ d.shown.length ≤ sizeLine ∧ Q (.str d.shown) H
  | _ => False
theorem call_uRepr (hA : X.A.guards = some []) (hu : X.A.units + 64 < cLine) : CallR X (.builtin "repr") (uRepr X.K) := by
  intro ps s σ H xs us R I r h
  match xs, h with
  | [.int i], h =>
    obtain ⟨_, rfl, t, rfl⟩ := vals1 r
    exact PySem.P.repr_of_int h.1 ⟨.str _, H, I.tok _, ⟨_, rfl⟩, h.2⟩
  | [.non], h =>
    obtain ⟨_, rfl, same⟩ := vals1 r
    cases same
    exact PySem.P.repr_of_none ⟨.str _, H, I.tok _, ⟨_, rfl⟩, h⟩
  | [.bl b], h =>
    obtain ⟨_, rfl, same⟩ := vals1 r
    cases same
    refine PySem.P.repr_of_bool ⟨.str _, H, I.tok _, ⟨s.toks, ?_⟩, h⟩
    cases b <;> rfl
  | [.str z], h =>
    obtain ⟨_, rfl, t, rfl⟩ := vals1 r
    exact PySem.P.repr_of_str ⟨.str _, H, I.tok _, ⟨_, rfl⟩, h.2⟩ h.1
  | [.ref a], h =>
    obtain ⟨_, rfl, same⟩ := vals1 r
    cases same
    obtain ⟨d, hd, hs, hn, hz, hl, q⟩ := h
    obtain ⟨as, rr⟩ := Dp.reads I d (.ref a) (.ref a) hd rfl
    exact repr_of_reads' rr hs (fun z => by rw [hn] at z; cases z) hA (by omega) (fun _ _ z => z) (fun h' u tk k => ⟨.str _, H, I.kept (t' := tk) k, ⟨_, rfl⟩, q⟩) hl
/-! ### methods of texts -/
def rJoin (K : PySem.W.Frag) : V → List V → Hp → VK → Prop := fun x xs H Q => ∃ a p, ∃ ys : List Str, x = .str a ∧ xs = [.ref p] ∧ (SqL K H p (ys.map V.str) ∨ SqT K H p (ys.map V.str)) ∧ (ys.map (·.length)).sum + ys.length * a.length ≤ 16777216 ∧ Q (.str (Txt.join a ys)) H
/-- sep.join(e), one argument: told over the argument list -/
def tJoin (K : PySem.W.Frag) (to : TE) (te : TE) : TE := tM1 (rJoin K) to te
theorem pe_joinU (ho : PE X o te) {td : TE} (he : PE X e td) (hs : starEach [e] X.env = [(false, eval e X.env)] := by rfl) (hbase : attributeBase o "join" X.env (eval o X.env) = eval o X.env := by rfl) (hline : (apos.endLine == pos.line) = true := by rfl) :
    PE X (.Call (.Attribute o "join" apos) [e] [] pos) (tJoin X.K te td) := pe_join ho he hs hbase hline
/-! ### list(..), tuple(..) -/
def strL (z : Str) : List V := z.cps.toList.map fun c => .str ⟨#[c]⟩
def uLst (K : PySem.W.Frag) : List V → Hp → VK → Prop := fun xs H Q => match xs with
  | [.ref p] => ∃ ys, (SqL K H p ys ∨ SqT K H p ys) ∧ ∀ l, H l = none → Q (.ref l) (upd H l (.lst ys))
  | [.str z] => z.length ≤ 100000 ∧ ∀ l, H l = none → Q (.ref l) (upd H l (.lst (strL z)))
  | _ => False
theorem vals_signs {z : Str} {acc : Array Value} (h : ItemsOf (SignAt z) acc z.cps.size) : Vals (strL z) acc.toList := by
  refine vals_of_at ?_ fun j x u hx hu => ?_
  · unfold strL
    rw [List.length_map, Array.length_toList, Array.length_toList, h.1]
  · unfold strL at hx
    rw [List.getElem?_map] at hx
    obtain ⟨c, hc, rfl⟩ := Option.map_eq_some_iff.mp hx
    obtain ⟨c', u', h1, h2⟩ := h.2 j u (by rw [← Array.getElem?_toList]; exact hu)
    rw [Array.getElem?_toList, h1] at hc
    cases hc
    exact ⟨u', h2⟩
theorem call_uLst (hc : X.calm = true) : CallR X (.type "list") (uLst X.K) := by
  intro ps s σ H xs us R I r h
  match xs, h with
  | [.ref p], ⟨ys, hs, q⟩ => exact call_list_of ps s σ H _ us R I r ⟨p, ys, rfl, hs, q⟩
  | [.str z], ⟨hz, q⟩ =>
    obtain ⟨_, rfl, t, rfl⟩ := vals1 r
    have hs := sizeLine_eq
    have hz' : z.cps.size ≤ 100000 := hz
    refine PySem.call_list_str (I.ok.hd hc) z t (fun h' tk acc c kp e it => ?_) (by omega)
    refine ⟨.ref s.heap.objs.size, _, I.laid (t' := tk) kp (Nat.le_refl _) (show ObjOk X.prog X.w _ h' _ (.lst (strL z)) from ⟨?_, acc.toList, c, vals_signs it, e⟩), rfl, q _ (I.hok.fresh (Nat.le_refl _))⟩
    unfold strL
    simp only [List.length_map, Array.length_toList]
    omega
def uTup (K : PySem.W.Frag) : List V → Hp → VK → Prop := fun xs H Q => match xs with
  | [.ref p] => ∃ ys, (SqL K H p ys ∧ ∀ l, H l = none → Q (.ref l) (upd H l (.tup ys))) ∨ (SqT K H p ys ∧ Q (.ref p) H)
  | [.str z] => z.length ≤ 100000 ∧ ∀ l, H l = none → Q (.ref l) (upd H l (.tup (strL z)))
  | _ => False
theorem call_uTup (hc : X.calm = true) : CallR X (.type "tuple") (uTup X.K) := by
  intro ps s σ H xs us R I r h
  match xs, h with
  | [.ref p], ⟨ys, h⟩ => exact call_tuple_of ps s σ H _ us R I r ⟨p, ys, rfl, h⟩
  | [.str z], ⟨hz, q⟩ =>
    obtain ⟨_, rfl, t, rfl⟩ := vals1 r
    have hs := sizeLine_eq
    have hz' : z.cps.size ≤ 100000 := hz
    refine PySem.call_tuple_str (I.ok.hd hc) z t (fun h' tk acc kp it => ?_) (by omega)
    have I1 := I.kept (h' := h') (t' := s.toks) kp
    have I2 : Inv X ps σ (upd H h'.objs.size (.tup (strL z))) { s with heap := h'.push { cls := .type "tuple", data := .seq acc }, toks := tk } :=
      I1.laid (t' := tk) (fun b o e => Heap.get?_push_of_some _ e) (Nat.le_refl _) (show ObjOk X.prog X.w _ _ _ (.tup (strL z)) from ⟨by
        unfold strL
        simp only [List.length_map, Array.length_toList]
        omega, acc.toList, vals_signs it, IsTup.new _ _⟩)
    refine ⟨.ref h'.objs.size, _, I2, rfl, ?_⟩
    exact q _ (I1.hok.fresh (Nat.le_refl _))
/-! ### what a for walks: a list or a tuple -/
def iSeq (K : PySem.W.Frag) (tl : TE) : TI := fun σ H R => iList K tl σ H R ∨ iTup K tl σ H R
theorem pi_seq {tg l : Expr} {tl : TE} (hl : PE X l tl) : PI X tg l (iSeq X.K tl) := by
  refine .mk ?_
  intro pins s σ H R I h
  rcases h with h | h
  · exact (pi_list hl).run pins s σ H R I h
  · exact (pi_tup hl).run pins s σ H R I h
def tTruth (K : PySem.W.Frag) (ta : TE) : TT := fun σ H Q => ta σ H fun x H' => ∃ k, TruV K x H' k ∧ Q k H'

end
end U
namespace U
open PySem PySem.Spec PyProof.Rows L2

/-! ### enumerate(text) -/
def IteS (z : Str) : It :=
  ⟨fun i _ => i < z.cps.size, fun i H v H' => ∃ T c, v = .ref T ∧ H T = none ∧ z.cps[i]? = some c ∧ H' = upd H T (.tup [.int (i : Nat), .str ⟨#[c]⟩]), fun i _ => i = z.cps.size⟩
/-- the text's own iterator at it, at its i-th sign -/
def SIt (it : Addr) (z : Str) (t : Tok) (i : Nat) (h : Heap) : Prop := h.IsStrIter it (strIterType z) z t i
theorem draws_str {P : Program} {w : World} {A : Around} (hh : A.handled = none) (it : Addr) (z : Str) (t : Tok) :
    Draws P w A it [it] z.cps.size (fun i v => ∃ c u, z.cps[i]? = some c ∧ v = .str ⟨#[c]⟩ u) (SIt it z t) := by
  unfold SIt strIterType
  split
  · exact Draws.strAscii hh it z t
  · exact Draws.strWide hh it z t
theorem turn_enumS {P : Program} {w : World} {K : PySem.W.Frag} {el : List Expr} {kk : Nat} {tp : Pos} (z : Str) (t : Tok) (e it : Addr) :
    Turn P w K (.Tuple el kk tp) (IteS z) [e, it] e (fun i h => (∃ old, IsEnum h e it ((i : Nat) : Int) old) ∧ SIt it z t i h ∧ e ≠ it) where
  mem := by simp
  obj := fun i h st b hb => by
    obtain ⟨⟨last, he⟩, itr, _⟩ := st
    obtain ⟨o, ho, hc, hd⟩ := itr
    rcases (show b = e ∨ b = it by simpa using hb) with q | q
    · subst q
      exact ⟨_, he, fun v q => nomatch q⟩
    · subst q
      exact ⟨o, ho, fun v q => by rw [hd] at q; cases q⟩
  keep := fun i h h' st k => by
    obtain ⟨⟨old, he⟩, ⟨o, ho, r⟩, ne⟩ := st
    exact ⟨⟨old, k e (by simp) _ he⟩, ⟨o, k it (by simp) o ho, r⟩, ne⟩
  item := by
    intro X hP hw hK hc
    intro i pins s σ H E I hf st hg
    subst hP hw hK
    obtain ⟨⟨old, he⟩, hit, ne⟩ := st
    have le := Heap.lt_size he
    have li : it < s.heap.objs.size := by
      obtain ⟨_, q, _⟩ := id hit
      exact Heap.lt_size q
    refine wpAny_pyNext_enum_itemD (draws_str (A := X.A.in1) (I.ok.hd hc) it z t) he hit hg ne (by simpa using ne) fun x h1 tk hx ho hit1 hT hz1 k1 => ?_
    obtain ⟨c, u, hcz, rfl⟩ := hx
    refine ⟨_, rfl, wpAny_letOwnedTupleGo_enum (s := { s with heap := h1, toks := tk + 1 }) ho fun h2 he2 sb => ?_⟩
    have T2 : h2.get? s.heap.objs.size = some { cls := .type "tuple", data := .seq #[.int i tk, .str ⟨#[c]⟩ u] } := (sb.2 _ (Nat.ne_of_gt le)).trans hT
    have new : ObjOk X.prog X.w (upd H s.heap.objs.size (.tup [.int (i : Nat), .str ⟨#[c]⟩])) h2 s.heap.objs.size (.tup [.int (i : Nat), .str ⟨#[c]⟩]) :=
      ⟨by show 2 ≤ sizeLine; decide, [.int i tk, .str ⟨#[c]⟩ u], .cons ⟨_, rfl⟩ (.cons ⟨_, rfl⟩ .nil), ⟨_, T2, rfl, _, rfl⟩⟩
    have I1 : Inv X pins σ (upd H s.heap.objs.size (.tup [.int (i : Nat), .str ⟨#[c]⟩])) { s with heap := h2, toks := tk + 1 } :=
      I.turnedNew (ch := [e, it]) (fun b ob hb q => (sb.2 b (fun y => hb (by simp [y]))).trans (k1 b ob (fun y => hb (by simp [y])) (fun y => hb (by simp [y])) q)) hf (Nat.le_refl _) new
    refine ⟨.ref s.heap.objs.size, _, I1, rfl, ⟨_, c, rfl, I.hok.fresh (Nat.le_refl _), hcz, rfl⟩, ⟨⟨.str ⟨#[c]⟩ u, ?_⟩, ?_, ne⟩, fun b hb => ?_⟩
    · rw [show ((i + 1 : Nat) : Int) = i + 1 by omega]
      exact he2
    · obtain ⟨o, q1, q2⟩ := hit1
      exact ⟨o, (sb.2 it (Ne.symm ne)).trans q1, q2⟩
    · have below : b < s.heap.objs.size := by
        rcases (show b = e ∨ b = it by simpa using hb) with q | q
        · rw [q]; exact le
        · rw [q]; exact li
      rw [upd_ne (Nat.ne_of_lt below)]
      exact (hf b hb).1
  done := by
    intro X hP hw hK hc
    intro i pins s σ H E I hf st hg
    subst hP hw hK
    obtain ⟨⟨old, he⟩, hit, ne⟩ := st
    obtain ⟨f0, f1, _, f3, f4, f5⟩ := hf it (by simp)
    have hi : i = z.cps.size := hg
    subst hi
    exact wpAny_pyNext_enum_endD (draws_str (A := X.A.in1) (I.ok.hd hc) it z t) he hit fun h' eb => ⟨rfl, I.turned (t' := s.toks) (fun b o hb q => eb b o hb q) f0 f1 f3 f4 f5⟩
  self := fun _ _ _ _ _ st h => by
    obtain ⟨⟨_, he⟩, _⟩ := st
    exact wpAny_pyIter_enum he h

def iEnumS (ta : TA) : TI := fun σ H R => ta σ H fun vs H1 => ∃ z, vs = [.str z] ∧ R (IteS z) H1
theorem pi_enumS {X : Cx} {e : Expr} {ta : TA} {p pos tpos : Pos} {elts : List Expr} {kk : Nat} (hg : Gl X "enumerate") (hm : X.mg "enumerate" = none) (ha : PA X [e] ta) (hs : starEach [e] X.env = [(false, eval e X.env)] := by rfl) :
    PI X (.Tuple elts kk tpos) (.Call (.Name "enumerate" p) [e] [] pos) (iEnumS ta) := by
  refine .mk ?_
  intro pins s σ H R I h
  refine Call_ (ld_blt I hg hm boot_enumerate (PyProof.Rows.callWith_type1 (thn (ha.run pos pins s σ H _ I h) fun us s1 z => ?_) hs rfl))
  obtain ⟨vs, H1, I1, r1, z, ex, q⟩ := z
  subst ex
  obtain ⟨u, rfl, t, rfl⟩ := vals1 r1
  refine PySem.call_enumerate_str fun h' he hit hsz hk => wpAny_pyIter_enum he ?_
  have I2 : Inv X pins σ H1 { s1 with heap := h' } := by
    exact I1.kept (t' := s1.toks) hk
  refine ⟨s1.heap.objs.size + 1, [s1.heap.objs.size + 1, s1.heap.objs.size], _, _, H1, rfl, I2, turn_enumS z t (s1.heap.objs.size + 1) s1.heap.objs.size, ⟨⟨.none, he⟩, hit, Nat.succ_ne_self _⟩, fun b hb => ?_, q⟩
  have hb2 : s1.heap.objs.size ≤ b := by
    rcases (show b = s1.heap.objs.size + 1 ∨ b = s1.heap.objs.size by simpa using hb) with q | q
    · exact q ▸ Nat.le_succ _
    · exact q ▸ Nat.le_refl _
  exact I1.fpOk hb2 (I1.hok.fresh hb2)
def iEnumU (K : PySem.W.Frag) (ta : TA) : TI := fun σ H R => iEnum K ta σ H R ∨ iEnumS ta σ H R
theorem pi_enumU {X : Cx} {e : Expr} {ta : TA} {p pos tpos : Pos} {elts : List Expr} {kk : Nat} (hg : Gl X "enumerate") (hm : X.mg "enumerate" = none) (ha : PA X [e] ta) (hs : starEach [e] X.env = [(false, eval e X.env)] := by rfl) :
    PI X (.Tuple elts kk tpos) (.Call (.Name "enumerate" p) [e] [] pos) (iEnumU X.K ta) := by
  refine .mk ?_
  intro pins s σ H R I h
  rcases h with h | h
  · exact (pi_enum hg hm ha hs).run pins s σ H R I h
  · exact (pi_enumS hg hm ha hs).run pins s σ H R I h
/-! ### comprehensions and loops, seen from their turns -/
/-- what an element does to the list under way at D -/
def Snoc (D : Addr) (N : Hp → Prop) : VK := fun y H => ∃ acc : List V, H D = some (.lst acc) ∧ acc.length < sizeLine ∧ N (upd H D (.lst (acc ++ [y])))
/-- one turn of a comprehension -/
def lcT (g : TG) (tt : TT) (te : TE) (vs : List Nat) (σ : L2.St) (D : Addr) (N : Hp → Prop) (x : V) (H : Hp) : Prop :=
  g x (wipe σ vs) H fun τ H2 => wipe τ vs = wipe σ vs ∧ tt τ H2 fun b H3 => if b = true then te τ H3 (Snoc D N) else N H3
/-- turns of an iterator to its end: B x H N is a turn behind which N holds -/
def Laps (J : It) (H0 : Hp) (fin : Hp → Prop) (B : V → Hp → (Hp → Prop) → Prop) : Prop :=
  ∃ W : Nat → Nat → Hp → Prop, (∃ m, W 0 m H0) ∧ ∀ (i m : Nat) (H : Hp), W i m H →
    (J.stop i H ∧ fin H) ∨ (J.go i H ∧ ∃ N : Hp → Prop, (∀ H', N H' → ∃ l, l < m ∧ W (i + 1) l H') ∧ ∀ x H', J.yld i H x H' → B x H' N)
def LcB (J : It) (g : TG) (tt : TT) (te : TE) (vs : List Nat) (σ : L2.St) (H : Hp) (D : Addr) (fin : Hp → Prop) : Prop :=
  Laps J (upd H D (.lst [])) fin fun x H' N => lcT g tt te vs σ D N x H'
end U
namespace U
open PySem PySem.Spec PyProof.Rows L2

/-! ### text[::-1] -/
def tRevS (te : TE) : TE := fun σ H Q => te σ H fun x H1 => ∃ z, x = .str z ∧ z.length ≤ sizeLine ∧ ∀ u, Q (.str (Txt.sliceBy z none none (-1, u))) H1
theorem pe_revS {X : Cx} {e : Expr} {te : TE} {k : Nat} {p1 p2 p3 pos : Pos} (he : PE X e te) : PE X (.Subscript e (.Slice none none (some (.UnaryOp .USub (.Constant (.int 1) k p1) p2)) p3) pos) (tRevS te) := by
  refine ⟨fun pins s σ H Q I h => ?_⟩
  refine Subscript_ (thn (he.run pins s σ H _ I h) fun v s1 z => ?_)
  obtain ⟨x, H1, I1, r1, y, ex, hz, q⟩ := z
  subst ex
  obtain ⟨t, rfl⟩ := r1
  have neg1 : PO X (some (.UnaryOp .USub (.Constant (.int 1) k p1) p2)) (tPart (tUn (rU fun i => .int (-i)) (tC (.int 1)))) := po_some (pe_un un_neg pe_int)
  rw [show eval (.Slice none none (some (.UnaryOp .USub (.Constant (.int 1) k p1) p2)) p3) X.env = eval (.Slice none none (some (.UnaryOp .USub (.Constant (.int 1) k p1) p2)) p3) X.env from rfl]
  refine wpAny_Slice ?_
  rw [evalPart_none]
  apply wpAny_pure
  apply wpAny_pure
  refine thn (neg1.run pins s1 σ H1 (fun o H4 => o = some (-1) ∧ H4 = H1) I1 ⟨1, rfl, -1, rfl, rfl, rfl⟩) fun vs s4 z => ?_
  obtain ⟨o, H4, I4, ps, eo, e4⟩ := z
  subst eo e4
  obtain ⟨l, el, em⟩ := IsPart.raw ps
  obtain ⟨u, rfl⟩ : ∃ u, l = some (-1, u) := by
    cases l with
    | none => cases em
    | some pr =>
      obtain ⟨a, u⟩ := pr
      have e2 : a = -1 := Option.some.inj em
      exact ⟨u, by rw [e2]⟩
  subst el
  refine tail_any (ops := [.ref s4.heap.objs.size, .str y t]) (typeIs_str _ _ _) F.slot_str_getitem.lookup
    (wpAny_getItem_str_slice (l := none) (u := none) (st := some (-1, u)) ⟨_, Heap.get?_push_size _ rfl, rfl, rfl⟩ rfl ?_) (by with_unfolding_all rfl)
  exact post_val_or_str ⟨Nat.le_trans (Txt.sliceBy_le y _ _ (-1, u) (by show (-1 : Int) ≠ 0; decide)) hz, fun t' c => ⟨.str (Txt.sliceBy y none none (-1, u)), H4, I4.kept (t' := c) fun b ob z => Heap.get?_push_of_some _ z, ⟨_, rfl⟩, q u⟩⟩
/-! ### raise C(e) of one's own exceptions, whose __init__ keeps one field -/
/-- what the written part says of such a class -/
def oexB (K : PySem.W.Frag) (C : Addr) : Bool := match K.lookup C with
  | some ⟨.type "type", dd, .cls cd, sl⟩ => (match cd.mro, sl.toList with
    | .ref C' :: bm, [_, _, _, _, some (.builtin n), _] => (C' == C && n == "ValueError.__new__") && (!cd.hasDel && cd.hasDict && PySem.HandSPX.refsVE bm)
    | _, _ => false)
  | _ => false
theorem oexB_ok {K : PySem.W.Frag} {C : Addr} (q : oexB K C = true) : ∃ nm qn N bs bm sn sub ab col dd k0 k1 k2 k3 k5, K.lookup C = some (excClassObj nm qn C N bs bm true sn sub ab col dd k0 k1 k2 k3 k5 "ValueError.__new__") ∧ PySem.HandSPX.refsVE bm = true := by
  unfold oexB at q
  split at q
  · rename_i dd cd sl ho
    split at q
    · rename_i own rest a0 a1 a2 a3 maker a5 order cells
      simp only [Bool.not_eq_true', beq_iff_eq, Bool.and_eq_true] at q
      obtain ⟨⟨eo, em⟩, ⟨nodel, dict1⟩, ground⟩ := q
      subst eo em
      obtain ⟨name, bases, line, space, qname, hasd, sl1, sl2, abst, coll, dels⟩ := cd
      dsimp only at order nodel dict1
      subst order nodel dict1
      have row : sl = #[a0, a1, a2, a3, some (.builtin "ValueError.__new__"), a5] := by
        obtain ⟨l⟩ := sl
        exact congrArg Array.mk cells
      subst row
      exact ⟨name, qname, space, bases, rest, sl1, sl2, abst, coll, dd, a0, a1, a2, a3, a5, ho, ground⟩
    · cases q
  · cases q
/-- all that the head tells of an exception class -/
def excB (K : PySem.W.Frag) (x f : Str) : Bool := oexB K (He.ga K x) && (He.eqO (PySem.W.findIn K (.ref (He.ga K x)) "__setattr__") (some (some (.builtin "object.__setattr__"))) && (decide (PySem.W.subIn K (.ref (He.ga K x)) (.type "BaseException") = some true) &&
  (decide (PySem.W.typeIn K (.ref (He.ga K x)) = some (.type "type")) && (PySem.W.keepIn K (.ref (He.ga K x)) && (He.eqO (PySem.W.findIn K (.ref (He.ga K x)) f) (some none) &&
  (He.eqO (PySem.W.findIn K (.ref (He.ga K x)) "__init__") (some (some (.ref (He.ma K (He.ga K x) "__init__")))) && decide (PySem.W.typeIn K (.ref (He.ma K (He.ga K x) "__init__")) = some (.type "function"))))))))
structure ExcT (K : PySem.W.Frag) (x f : Str) : Prop where
  oc : OexC K (He.ga K x)
  nf : PySem.W.findIn K (.ref (He.ga K x)) f = some none
  ini : PySem.W.findIn K (.ref (He.ga K x)) "__init__" = some (some (.ref (He.ma K (He.ga K x) "__init__")))
  fn : PySem.W.typeIn K (.ref (He.ma K (He.ga K x) "__init__")) = some (.type "function")
theorem excB_ok {K : PySem.W.Frag} {x f : Str} (h : excB K x f = true) : ExcT K x f := by
  unfold excB at h
  simp only [decide_eq_true_eq, Bool.and_eq_true] at h
  obtain ⟨h1, h2, h3, h4, h5, h6, h7, h8⟩ := h
  exact ⟨⟨oexB_ok h1, He.eqO_ok h2, h3, h4, h5⟩, He.eqO_ok h6, He.eqO_ok h7, h8⟩
/-- the promise of its __init__ -/
def spExcI (K : PySem.W.Frag) (x f : Str) : Sp := fun vs H Q _ => ∃ (a : Addr) (v : V), vs = [.ref a, v] ∧ H a = some (exo a (He.ga K x) none) ∧ ∀ dx, H dx = none → dx ≠ a → Q .non (upd (upd H dx (exd dx [(f, v)])) a (exo a (He.ga K x) (some dx)))
theorem spExcI_len {K : PySem.W.Frag} {x f : Str} {n : Str} : ∀ vs H Q E, spExcI K x f vs H Q E → vs.length = (["self", n] : List Str).length := by
  intro vs H Q E h
  obtain ⟨a, v, rfl, _⟩ := h
  rfl
theorem read_excI {K : PySem.W.Frag} {x f : Str} (T : ExcT K x f) {vs : List V} {H : Hp} {Q : VK} {E : XK} (h : spExcI K x f vs H Q E) {n : Str} :
    tOst K f (tVar 0) (tVar 1) { nx := fun _ H' => Q .non H', rt := Q } (start ["self", n] vs) H := by
  obtain ⟨a, v, rfl, ha, q⟩ := h
  exact ⟨v, rfl, .ref a, rfl, a, He.ga K x, rfl, T.oc, T.nf, .inl ⟨ha, q⟩⟩
/-- an own exception class that may be raised -/
structure GoodX (P : Program) (w : World) (K : PySem.W.Frag) (mg : Str → Option Value) (base : Heap) (x f : Str) : Prop where
  fn : ∃ fd, FnOk P w K mg base (L2.CX P w) 1 (He.ma K (He.ga K x) "__init__") fd ["self", f] (spExcI K x f) ∧ Binds K fd ["self", f] []
  t : ExcT K x f
  mg : mg x = some (.ref (He.ga K x))
def tRse (K : PySem.W.Frag) (c f : Str) (E : XK) (ta : TA) : TS := fun _ σ H => tMkO (He.ga K c) (spExcI K c f) [] ta σ H fun cls d H' => E cls d H'
theorem back_one {H1 : Hp} {a dx : Addr} {fs : List (Str × V)} {o1 o2 o3 : HO} (ha : H1 a = none) (hne : dx ≠ a) : upd (del (upd (upd (upd H1 a o1) dx o2) a o3) a) dx (.xd fs) = upd H1 dx (.xd fs) := by
  funext b
  unfold upd del
  by_cases h1 : b = dx
  · rw [if_pos h1, if_pos h1]
  · rw [if_neg h1, if_neg h1]
    by_cases h2 : b = a
    · rw [if_pos h2, h2, ha]
    · simp only [if_neg h2, if_neg h1]
theorem ps_rse {X : Cx} {c f : Str} {E : XK} {e : Expr} {ta : TA} {p pos pos2 : Pos} (g : GoodX X.prog X.w X.K X.mg X.base c f) (hr : Room 2 X.A) (hc : X.calm = true) (tk : Takes X fun cls d _ H => E cls d H) (hg : Gl X c) (ha : PA X [e] ta)
    (hdb : (c == ("__debug__" : Str)) = false := by decide) (he : starEach [e] X.env = [(false, eval e X.env)] := by rfl) :
    PS X (.Raise (some (.Call (.Name c p) [e] [] pos)) none pos2) (tRse X.K c f E ta) := by
  obtain ⟨fd, F, hb⟩ := g.fn
  exact ps_raise hc tk (pmk_oex (es := []) g.t.oc g.t.ini g.t.fn F hr hb .nil passL hg g.mg ha hdb he)
/-- what is asked behind the argument of such a raise -/
theorem rse_of {K : PySem.W.Frag} {c f : Str} {E : XK} {v : V} {H1 : Hp} (h : ∀ d, H1 d = none → E (.ref (He.ga K c)) (some d) (upd H1 d (.xd [(f, v)]))) :
    [v].length ≤ 1000 ∧ ∀ a, H1 a = none → spExcI K c f (.ref a :: ([v] ++ [])) (upd H1 a (exo a (He.ga K c) none))
      (fun x H2 => x = .non ∧ ∃ (d : Addr) (fs : List (Str × V)), H2 a = some (exo a (He.ga K c) (some d)) ∧ H2 d = some (exd d fs) ∧ H1 d = none ∧ E (.ref (He.ga K c)) (some d) (upd (del H2 a) d (.xd fs))) (fun _ _ _ => False) := by
  refine ⟨by simp, fun a ha => ⟨a, v, rfl, upd_same, fun dx hd hne => ?_⟩⟩
  rw [upd_ne hne] at hd
  refine ⟨rfl, dx, [(f, v)], upd_same, ?_, hd, ?_⟩
  · rw [upd_ne hne, upd_same]
  · rw [back_one ha hne]
    exact h dx hd
end U
namespace U
open PySem PySem.Spec PyProof.Rows L2

/-! ### a def of the module, wherever it is called from -/
structure GoodO (P : Program) (w : World) (K : PySem.W.Frag) (mg : Str → Option Value) (base : Heap) (k : Nat) (x : Str) (ps : List Str) (sp : Sp) : Prop where
  fn : ∃ fd, FnOk P w K mg base (L2.CX P w) k (He.ga K x) fd ps sp ∧ Binds K fd ps []
  mg : mg x = some (.ref (He.ga K x))
  kp : PySem.W.keepIn K (.ref (He.ga K x)) = true
section
variable {X : Cx} {k : Nat} {x m : Str} {ps : List Str} {sp : Sp} {E : XK} {p pos apos : Pos} {e o : Expr} {es : List Expr} {ta : TE} {t : TA}
theorem tFn_eq (sp : Sp) (E : XK) (t : TA) : tCall sp [] E t = tFn sp E t := by
  unfold tCall tFn
  simp only [List.append_nil]
theorem pe_fo (g : GoodO X.prog X.w X.K X.mg X.base k x ps sp) (hr : Room k X.A) (hg : Gl X x) (hx : Passes (L2.CX X.prog X.w) X E)
    (hpl : (backTo pos (starEach es X.env)).any (·.1) = false := by rfl) (he : starEach (e :: es) X.env = (false, eval e X.env) :: starEach es X.env := by rfl) (ha : PA X (e :: es) t)
    (hdb : (x == ("__debug__" : Str)) = false := by decide) :
    PE X (.Call (.Name x p) (e :: es) [] pos) (tFn sp E t) := by
  obtain ⟨fd, F, hb⟩ := g.fn
  exact tFn_eq sp E t ▸ pe_call F hr hg g.mg g.kp hb .nil hx ha hdb he hpl
end
/-! ### promises by the number of arguments -/
def sp1 (f : V → Hp → VK → XK → Prop) : Sp := fun vs H Q E => match vs with
  | [x] => f x H Q E
  | _ => False
def sp2 (f : V → V → Hp → VK → XK → Prop) : Sp := fun vs H Q E => match vs with
  | [x, y] => f x y H Q E
  | _ => False
def sp3 (f : V → V → V → Hp → VK → XK → Prop) : Sp := fun vs H Q E => match vs with
  | [x, y, z] => f x y z H Q E
  | _ => False
def sp4 (f : V → V → V → V → Hp → VK → XK → Prop) : Sp := fun vs H Q E => match vs with
  | [x, y, z, u] => f x y z u H Q E
  | _ => False
theorem sp1_len {f : V → Hp → VK → XK → Prop} {a : Str} : ∀ vs H Q E, sp1 f vs H Q E → vs.length = ([a] : List Str).length := fun vs H Q E h => match vs, h with
  | [_], _ => rfl
theorem sp2_len {f : V → V → Hp → VK → XK → Prop} {a b : Str} : ∀ vs H Q E, sp2 f vs H Q E → vs.length = ([a, b] : List Str).length := fun vs H Q E h => match vs, h with
  | [_, _], _ => rfl
theorem sp3_len {f : V → V → V → Hp → VK → XK → Prop} {a b c : Str} : ∀ vs H Q E, sp3 f vs H Q E → vs.length = ([a, b, c] : List Str).length := fun vs H Q E h => match vs, h with
  | [_, _, _], _ => rfl
theorem sp4_len {f : V → V → V → V → Hp → VK → XK → Prop} {a b c d : Str} : ∀ vs H Q E, sp4 f vs H Q E → vs.length = ([a, b, c, d] : List Str).length := fun vs H Q E h => match vs, h with
  | [_, _, _, _], _ => rfl
/-! ### kinds of values -/
inductive Ty where
  | non | bl | int | str | lst | tup | dct | yard
  deriving DecidableEq
def Ty.v (K : PySem.W.Frag) : Ty → Value
  | .non => .type "NoneType"
  | .bl => .type "bool"
  | .int => .type "int"
  | .str => .type "str"
  | .lst => .type "list"
  | .tup => .type "tuple"
  | .dct => .type "dict"
  | .yard => .ref (He.ga K "Yard")
def Ty.all : List Ty := [.non, .bl, .int, .str, .lst, .tup, .dct, .yard]
theorem Ty.mem_all (a : Ty) : a ∈ Ty.all := by cases a <;> decide
def Ty.sub (a b : Ty) : Bool := decide (a = b) || (decide (a = .bl) && decide (b = .int))
/-- a value of a kind -/
def Is (K : PySem.W.Frag) (H : Hp) (x : V) (a : Ty) : Prop := TyX K H x (a.v K)
/-- a tuple of the module without a dict -/
def tupO (K : PySem.W.Frag) (x : Str) : Bool := match K.lookup (He.ga K x) with
  | some o => decide (o.cls = .type "tuple") && o.dict.isNone
  | none => false
theorem tupO_ok {K : PySem.W.Frag} {x : Str} (h : tupO K x = true) (H : Hp) : tyV K "tuple" (.ref (He.ga K x)) H := by
  unfold tupO at h
  split at h
  · rename_i o ho
    simp only [Bool.and_eq_true, decide_eq_true_eq, Option.isNone_iff_eq_none] at h
    exact .inr (.inl ⟨rfl, o, ho, h.1, h.2⟩)
  · cases h
/-- what the head tells, whatever the law -/
def kfB (K : PySem.W.Frag) : Bool := (Ty.all.all fun a => Ty.all.all fun b => decide (PySem.W.kitOne K (a.v K) (b.v K) = some (a.sub b))) &&
  (He.tupB K "PLACES" [.str "a", .str "b", .str "c"] && (He.tupB K "WAYS" [.str "ab", .str "ac", .str "ba", .str "bc", .str "ca", .str "cb"] &&
  ((He.Fa.cls "Yard").ok K && ((He.Fa.noat "Yard" "_rows").ok K && (He.eqO (PySem.W.findIn K (.ref (He.ga K "Yard")) "__class__") (some (some (.builtin "object.__class__"))) &&
  (He.eqO (PySem.W.specialIn K (.builtin "object.__class__") "__get__") (some (some (.builtin "getset_descriptor.__get__"))) && (decide (PySem.W.takesIn K (.builtin "object.__class__") = some true) && (decide (PySem.W.mroIn K (He.ga K "Yard") (.type "object") = some true) && (tupO K "PLACES" && (tupO K "WAYS" && ((He.Fa.noat "Yard" "_reckoning").ok K && (Ty.all.all fun a => PySem.W.notFirst K (He.ga K "Yard") (a.v K)))))))))))))
structure KF (K : PySem.W.Frag) : Prop where
  kit : ∀ a b : Ty, PySem.W.kitOne K (a.v K) (b.v K) = some (a.sub b)
  places : ∀ H, SqT K H (He.ga K "PLACES") [.str "a", .str "b", .str "c"]
  ways : ∀ H, SqT K H (He.ga K "WAYS") [.str "ab", .str "ac", .str "ba", .str "bc", .str "ca", .str "cb"]
  cl : Cls K (He.ga K "Yard")
  na : NoAttr K (He.ga K "Yard") "_rows"
  c1 : PySem.W.findIn K (.ref (He.ga K "Yard")) "__class__" = some (some (.builtin "object.__class__"))
  c2 : PySem.W.specialIn K (.builtin "object.__class__") "__get__" = some (some (.builtin "getset_descriptor.__get__"))
  c3 : PySem.W.takesIn K (.builtin "object.__class__") = some true
  c4 : PySem.W.mroIn K (He.ga K "Yard") (.type "object") = some true
  pO : ∀ H, tyV K "tuple" (.ref (He.ga K "PLACES")) H
  wO : ∀ H, tyV K "tuple" (.ref (He.ga K "WAYS")) H
  na2 : NoAttr K (He.ga K "Yard") "_reckoning"
  nf : ∀ a : Ty, PySem.W.notFirst K (He.ga K "Yard") (a.v K) = true
theorem kfB_ok {K : PySem.W.Frag} (h : kfB K = true) : KF K := by
  unfold kfB at h
  simp only [decide_eq_true_eq, Bool.and_eq_true] at h
  obtain ⟨h1, h2, h3, h4, h5, h6, h7, h8, h9, h10, h11, h12, h13⟩ := h
  refine ⟨fun a b => ?_, fun H => He.tupB_ok h2 H, fun H => He.tupB_ok h3 H, He.cls_ok h4, He.noat_ok h5, He.eqO_ok h6, He.eqO_ok h7, h8, h9, fun H => tupO_ok h10 H, fun H => tupO_ok h11 H, He.noat_ok h12, fun a => List.all_eq_true.mp h13 a a.mem_all⟩
  have := List.all_eq_true.mp (List.all_eq_true.mp h1 a a.mem_all) b b.mem_all
  exact of_decide_eq_true this
section
variable {K : PySem.W.Frag} {H : Hp} {x : V}
theorem is_non : Is K H .non .non := .base .non
theorem is_int (i : Int) : Is K H (.int i) .int := .base (.int i)
theorem is_str (z : Str) : Is K H (.str z) .str := .base (.str z)
theorem is_sqL {p : Addr} {xs : List V} (h : SqL K H p xs) : Is K H (.ref p) .lst := by
  rcases h with (h | ⟨o, h⟩) | ⟨o, its, n, h, hc, _⟩
  · exact .base (.lst h)
  · exact .base (.frz h)
  · exact .kList h hc
theorem is_sqT {p : Addr} {xs : List V} (h : SqT K H p xs) : Is K H (.ref p) .tup := by
  rcases h with (h | ⟨o, h⟩) | ⟨o, its, n, h, hc, _⟩
  · exact .base (.tup h)
  · exact .fTuple h
  · exact .kTuple h hc
theorem is_yard (F : KF K) {p dx : Addr} {fs : List (Str × V)} (h : H p = some (.ins (He.ga K "Yard") dx fs)) : Is K H (.ref p) .yard := .base (.ins h F.cl F.c1 F.c2 F.c3 F.c4)
/-- only texts are texts, only integers are integers, and so on -/
theorem Is.str_inv (h : Is K H x .str) : ∃ z, x = .str z := by
  have key : ∀ t, TyX K H x t → t = .type "str" → ∃ z, x = .str z := by
    intro t h e
    cases h with
    | base b => cases b <;> first | exact ⟨_, rfl⟩ | (injection e with e; exact absurd e (by decide)) | cases e
    | _ => injection e with e; exact absurd e (by decide)
  exact key _ h rfl
theorem Is.int_inv (h : Is K H x .int) : ∃ z, x = .int z := by
  have key : ∀ t, TyX K H x t → t = .type "int" → ∃ z, x = .int z := by
    intro t h e
    cases h with
    | base b => cases b <;> first | exact ⟨_, rfl⟩ | (injection e with e; exact absurd e (by decide)) | cases e
    | _ => injection e with e; exact absurd e (by decide)
  exact key _ h rfl
theorem Is.bl_inv (h : Is K H x .bl) : ∃ z, x = .bl z := by
  have key : ∀ t, TyX K H x t → t = .type "bool" → ∃ z, x = .bl z := by
    intro t h e
    cases h with
    | base b => cases b <;> first | exact ⟨_, rfl⟩ | (injection e with e; exact absurd e (by decide)) | cases e
    | _ => injection e with e; exact absurd e (by decide)
  exact key _ h rfl
end
/-! ### heaps that keep what they have -/
theorem same_new {H : Hp} {p : Addr} {o : HO} (h : H p = none) : Same H (upd H p o) := fun b u e => by
  rw [upd_ne (ne_of_none e h)]
  exact e
theorem Same.sqT {K : PySem.W.Frag} {H H' : Hp} {a : Addr} {xs : List V} (e : Same H H') (h : SqT K H a xs) : SqT K H' a xs :=
  h.imp (Or.imp (e _ _) fun ⟨o, z⟩ => ⟨o, e _ _ z⟩) id
end U
namespace U
open PySem PySem.Spec PyProof.Rows L2

/-! ### the module's table of thirds -/
end U
namespace U
open PySem PySem.Spec PyProof.Rows L2

/-! ### the module's table of columns -/
/-! ### text.strip(signs), text.rfind(sign) -/
def rStrip : V → List V → Hp → VK → Prop := fun x xs H Q => ∃ a b, x = .str a ∧ xs = [.str b] ∧ a.length ≤ sizeLine ∧ Q (.str (Txt.stripChars a b)) H
theorem mt_stripU {X : Cx} : MtR X "str.strip" rStrip := mt_stripChars
theorem tw_mem {g : Nat → Bool} {l : List Nat} {x : Nat} (h : x ∈ l.takeWhile g) : g x = true := by
  induction l with
  | nil => cases h
  | cons a r ih =>
    rw [List.takeWhile_cons] at h
    split at h
    · rename_i e
      rcases List.mem_cons.mp h with rfl | hr
      · exact e
      · exact ih hr
    · cases h
theorem dw_nil {g : Nat → Bool} {l : List Nat} (h : ∀ x ∈ l, g x = true) : l.dropWhile g = [] := by
  induction l with
  | nil => rfl
  | cons a r ih =>
    rw [List.dropWhile_cons, if_pos (h a List.mem_cons_self)]
    exact ih fun x m => h x (List.mem_cons_of_mem _ m)
theorem strip_nil (a b : Str) : Txt.stripChars a b = "" ↔ ∀ c ∈ a.cps.toList, b.cps.contains c = true := by
  unfold Txt.stripChars
  rw [PySem.W.stripBy_eq]
  show Builtin.Str.strSub a (stripLo b.cps.contains true a) (stripHi b.cps.contains true a (stripLo b.cps.contains true a)) = "" ↔ _
  have el : stripLo b.cps.contains true a = (a.cps.toList.takeWhile b.cps.contains).length := rfl
  have eh : stripHi b.cps.contains true a (stripLo b.cps.contains true a) = a.length - ((a.cps.toList.drop (stripLo b.cps.contains true a)).reverse.takeWhile b.cps.contains).length := rfl
  have en : a.length = a.cps.toList.length := by show a.cps.size = _; simp
  rw [eh, el, en, strSub_mk]
  generalize a.cps.toList = L
  generalize b.cps.contains = g
  have e0 : ∀ l : List Nat, (⟨l.toArray⟩ : Str) = "" ↔ l = [] := fun l => by
    constructor
    · intro h
      have h2 : l.toArray = (#[] : Array Nat) := congrArg Str.cps h
      exact congrArg Array.toList h2
    · rintro rfl
      rfl
  rw [e0]
  have hd : L = L.takeWhile g ++ L.dropWhile g := (List.takeWhile_append_dropWhile).symm
  have e1 : L.drop (L.takeWhile g).length = L.dropWhile g := by
    conv => lhs; rw [hd]
    rw [List.drop_append_of_le_length (by simp), List.drop_of_length_le (by simp), List.nil_append]
  have hl : L.length = (L.takeWhile g).length + (L.dropWhile g).length := by
    conv => lhs; rw [hd]
    exact List.length_append
  rw [e1]
  constructor
  · intro h
    cases hD : L.dropWhile g with
    | nil =>
      rw [hD, List.append_nil] at hd
      intro c hc
      rw [hd] at hc
      exact tw_mem hc
    | cons d r =>
      exfalso
      have hgd : g d = false := by
        have := List.head?_dropWhile_not g L
        rw [hD] at this
        simpa using this
      have hlt : ((d :: r).reverse.takeWhile g).length ≤ r.length := by
        rw [List.reverse_cons]
        have hle := (List.takeWhile_prefix (p := g) (l := r.reverse ++ [d])).length_le
        rcases Nat.lt_or_ge ((r.reverse ++ [d]).takeWhile g).length (r.length + 1) with q | q
        · omega
        · have pe := (List.takeWhile_prefix (p := g) (l := r.reverse ++ [d])).eq_of_length (by simp at hle ⊢; omega)
          have hm : d ∈ (r.reverse ++ [d]).takeWhile g := by rw [pe]; simp
          rw [tw_mem hm] at hgd
          cases hgd
      rw [hD] at h hl
      rw [List.take_eq_nil_iff] at h
      rcases h with h | h
      · rw [List.length_cons] at hl
        omega
      · cases h
  · intro h
    have : L.dropWhile g = [] := dw_nil h
    rw [this]
    simp
end U
namespace U
open PySem PySem.Spec PyProof.Rows L2

/-! ### sorted(d.values()), fewer than 64 integers -/
end U
namespace U
open PySem PySem.Spec PyProof.Rows L2

/-! ### len(set(text)) -/
section
variable {P : Program} {w : World} {A : Around} {E : Value → Shared → Prop} {z : Str}
local macro_rules | `(tactic| walk_at "g") => `(tactic| repeat (any_goals (first | assumption | wp_step)))
end
section
variable {X : Cx} {p p2 q pos : Pos} {a : Expr} {ta : TE}
end
end U
namespace U
open PySem PySem.Spec PyProof.Rows L2

/-! ### except (A, B, ..): which exceptions such a clause takes -/
section
variable {M : Model} {A : Around} {s : Shared} {E : Value → Shared → Prop}
end
end U
namespace U
open PySem PySem.Spec PyProof.Rows L2

/-! ### try: several clauses, each with or without a name, of one class or of several -/
section
variable {X : Cx}
end
/-- a clause: what it takes, its name's slot, its suite -/
structure Clz where
  m : Value → Option Bool
  nm : Option Nat
  ts : Addr → Value → Option Addr → TS
section
variable {X : Cx} {body : List Stmt} {h0 : ExceptHandler} {hds : List ExceptHandler} {l : List Clz} {pos : Pos} {tb : WX → TS} {Wout : WX}
end
end U
namespace U
open PySem PySem.Spec PySem.Calls PyProof.Rows L2

/-! ### isinstance and fields of a caught exception of one's own, whatever its dict -/
section
variable {P : Program} {w : World} {A : Around} {E : Value → Shared → Prop} {s : Shared} {K : PySem.W.Frag} {x D : Addr} {ox : Obj} {od : Option Obj}
end
/-! ### calls in a try's body: what they may raise is told by the state -/
section
variable {X : Cx} {k : Nat} {x C : Str} {ps : List Str} {sp : Sp} {W : WX} {p pos : Pos} {e : Expr} {es : List Expr} {t : TA}
end
/-! ### what a law never comes to -/
def tNeverS : TS := fun _ _ _ => False
theorem ps_never {X : Cx} {st : Stmt} : PS X st tNeverS := ⟨fun _ _ _ _ _ _ h => h.elim⟩
/-! ### one's own exceptions, all directly under one -/
structure XF (K : PySem.W.Frag) (B : Str) (cs : List Str) : Prop where
  m : ∀ x ∈ cs, ∀ y ∈ B :: cs, PySem.W.exmOne K (.ref (He.ga K x)) (.ref (He.ga K y)) = some (decide (y = B ∨ y = x))
  i : ∀ x ∈ cs, ∀ y ∈ B :: cs, PySem.W.kitOne K (.ref (He.ga K x)) (.ref (He.ga K y)) = some (decide (y = B ∨ y = x))
  c : ∀ x ∈ cs, ExcC K (He.ga K x)
  f : ∀ x ∈ cs, XfC K (He.ga K x)
  v : ∀ x ∈ cs, PySem.W.findIn K (.ref (He.ga K x)) "value" = some none
def excCB (K : PySem.W.Frag) (D : Addr) : Bool := decide (PySem.W.findIn K (.ref D) "__getattribute__" = some (some (.builtin "BaseException.__getattribute__"))) && (decide (PySem.W.findIn K (.ref D) "__getattr__" = some none) && (decide (PySem.W.subIn K (.ref D) (.type "BaseException") = some true) &&
  (PySem.W.hasDictIn K D && (decide (PySem.W.findIn K (.ref D) "__class__" = some (some (.builtin "object.__class__"))) && (decide (PySem.W.specialIn K (.builtin "object.__class__") "__get__" = some (some (.builtin "getset_descriptor.__get__"))) &&
  (decide (PySem.W.takesIn K (.builtin "object.__class__") = some true) && (decide (PySem.W.mroIn K D (.type "object") = some true) && decide (PySem.W.findIn K (.ref D) "value" = some none))))))))
def xFB (B : Str) (cs : List Str) (K : PySem.W.Frag) : Bool := cs.all fun x => excCB K (He.ga K x) && (B :: cs).all fun y => decide (PySem.W.exmOne K (.ref (He.ga K x)) (.ref (He.ga K y)) = some (decide (y = B ∨ y = x))) && decide (PySem.W.kitOne K (.ref (He.ga K x)) (.ref (He.ga K y)) = some (decide (y = B ∨ y = x)))
theorem xF_ok {K : PySem.W.Frag} {B : Str} {cs : List Str} (h : xFB B cs K = true) : XF K B cs := by
  have all : ∀ x ∈ cs, ExcC K (He.ga K x) ∧ PySem.W.findIn K (.ref (He.ga K x)) "value" = some none ∧ ∀ y ∈ B :: cs, PySem.W.exmOne K (.ref (He.ga K x)) (.ref (He.ga K y)) = some (decide (y = B ∨ y = x)) ∧ PySem.W.kitOne K (.ref (He.ga K x)) (.ref (He.ga K y)) = some (decide (y = B ∨ y = x)) := fun x hx => by
    have q := List.all_eq_true.mp h x hx
    rw [Bool.and_eq_true] at q
    obtain ⟨q1, q2⟩ := q
    unfold excCB at q1
    simp only [decide_eq_true_eq, Bool.and_eq_true] at q1
    obtain ⟨a1, a2, a3, a4, a5, a6, a7, a8, a9⟩ := q1
    refine ⟨⟨a1, a2, a3, a4, a5, a6, a7, a8⟩, a9, fun y hy => ?_⟩
    have z := List.all_eq_true.mp q2 y hy
    rw [Bool.and_eq_true] at z
    exact ⟨of_decide_eq_true z.1, of_decide_eq_true z.2⟩
  exact ⟨fun x hx y hy => ((all x hx).2.2 y hy).1, fun x hx y hy => ((all x hx).2.2 y hy).2, fun x hx => (all x hx).1, fun x hx => ⟨(all x hx).1.hg, (all x hx).1.hk, (all x hx).1.hs, (all x hx).1.hd⟩, fun x hx => (all x hx).2.1⟩
end U
namespace U
open PySem PySem.Spec PyProof.Rows L2

/-! ### a classmethod of the module -/
section
variable {X : Cx} {k : Nat} {C m : Str} {ps : List Str} {sp : Sp} {E : XK} {o e : Expr} {es : List Expr} {pos apos : Pos} {ta : TE} {t : TA} {pl : Sem Bool}
end
/-! ### sorted(text), fewer than 64 signs -/
end U
namespace U
open PySem PySem.Spec PyProof.Rows L2

/-! ### texts of data are texts -/
/-! ### data with dicts in it -/
/-- the interpreter's own table of modules is a dict -/
def sysB (K : PySem.W.Frag) : Bool := match K.lookup sysModules with
  | some o => decide (o.cls = .type "dict")
  | none => false
def KS (K : PySem.W.Frag) : Prop := ∃ o, K.lookup sysModules = some o ∧ o.cls = .type "dict"
theorem kS_ok {K : PySem.W.Frag} (h : sysB K = true) : KS K := by
  unfold sysB at h
  split at h
  · rename_i o e
    exact ⟨o, e, of_decide_eq_true h⟩
  · cases h
section
variable {X : Cx} {pins : List (Addr × Obj)} {σ : L2.St} {H : Hp} {s : Shared} {v : V} {d : PyData}
end
end U
namespace U
open PySem PySem.Spec PySem.Calls PyProof.Rows L2

/-! ### cls(..): an object of one's own class, whose class stands in a local name -/
section
variable {X : Cx} {k i : Nat} {x C : Str} {ps : List Str} {sp : Sp} {E : XK} {p pos : Pos} {e : Expr} {es : List Expr} {t : TA}
end
/-! ### o.m(k = v, ..): all arguments by their names -/
section
variable {X : Cx} {CX : CXT} {k : Nat} {f C : Addr} {fd : FuncData} {ps ks : List Str} {sp : Sp} {E : XK} {m : Str} {pos apos : Pos} {o : Expr} {kws : List Keyword} {ta : TE} {tk : TA} {g : List Value → List Value → List Value} {gV : List V → List V → List V} {pl : Sem Bool}
end
/-- without defaults: how the names' values come to their places -/
theorem kbN {K : PySem.W.Frag} {x qual : Str} {params : Arguments} {body : List Stmt} {scope : Scope} {kws : List (Str × V)} {f : Addr} {fd : FuncData} {ps : List Str} (F : FunD K x qual params body scope [] kws f fd) (n : Nat) (ks : List Str) (g : {α : Type} → List α → List α → List α)
    (rel : ∀ {vs zs : List V} {us ws : List Value}, Vals vs us → Vals zs ws → Vals (g vs zs) (g us ws))
    (h : ∀ (kV doc pm : Value) (an : Option Addr) (cdv ct : Value) (us ws : List Value), us.length = n → ws.length = ks.length → bindArgs (PySem.W.fnOf x qual params body scope .none kV doc pm an cdv ct) ⟨us, ks.zip ws⟩ = pure (ps.zip (g us ws))) : KBn K fd ps n ks (fun us ws => g us ws) (fun vs zs => g vs zs) := by
  obtain ⟨_, _, _, kV, doc, pm, an, cdv, ct, _, rfl, _, _, hD, _⟩ := F.ex
  rcases hD with ⟨_, rfl⟩ | ⟨ne, _⟩
  · exact ⟨fun s us ws _ l1 l2 => .of_eq (h kV doc pm an cdv ct us ws l1 l2), fun r1 r2 => rel r1 r2⟩
  · exact absurd rfl ne
/-- the written values first, then those that were given by names, in the places' order -/
def kwP {α : Type} (ix : List Nat) (vs zs : List α) : List α := vs ++ ix.filterMap fun i => zs[i]?
theorem vals_get {zs : List V} {ws : List Value} (h : Vals zs ws) : ∀ i : Nat, (zs[i]? = none ∧ ws[i]? = none) ∨ ∃ v u, zs[i]? = some v ∧ ws[i]? = some u ∧ RelV v u := by
  induction h with
  | nil => exact fun i => .inl ⟨rfl, rfl⟩
  | cons r _ ih =>
    intro i
    cases i with
    | zero => exact .inr ⟨_, _, rfl, rfl, r⟩
    | succ j => exact ih j
theorem kwP_rel (ix : List Nat) {vs zs : List V} {us ws : List Value} (h1 : Vals vs us) (h2 : Vals zs ws) : Vals (kwP ix vs zs) (kwP ix us ws) := by
  refine h1.append ?_
  induction ix with
  | nil => exact .nil
  | cons i r ih =>
    rcases vals_get h2 i with ⟨e1, e2⟩ | ⟨v, u, e1, e2, q⟩
    · rw [List.filterMap_cons_none e1, List.filterMap_cons_none e2]
      exact ih
    · rw [List.filterMap_cons_some e1, List.filterMap_cons_some e2]
      exact .cons q ih
end U
namespace U
open PySem PySem.Spec PySem.Calls PyProof.Rows L2

/-! ### x == y where x is of a class with an __eq__ of its own -/
section
variable {X : Cx} {CX : CXT} {n : Nat} {C f : Addr} {fd : FuncData} {ps : List Str} {sp : Sp} {E : XK}
end
end U
namespace U
open PySem PySem.Spec PyProof.Rows L2

/-! ### xs[k] += n -/
/-! ### zip(list, tuple) -/
def ItzM (K : PySem.W.Frag) (a b : Addr) : It :=
  ⟨fun i H => ∃ xs ys x y, SqL K H a xs ∧ (SqT K H b ys ∧ (xs[i]? = some x ∧ ys[i]? = some y)),
    fun i H v H' => ∃ T x y, v = .ref T ∧ (H T = none ∧ (H' = upd H T (.tup [x, y]) ∧ ((∀ xs, SqL K H a xs → xs[i]? = some x) ∧ ∀ ys, SqT K H b ys → ys[i]? = some y))),
    fun i H => ∃ xs ys, SqL K H a xs ∧ (SqT K H b ys ∧ (i ≤ xs.length ∧ (i ≤ ys.length ∧ (i = xs.length ∨ i = ys.length))))⟩
/-- the five cells of such a zip, and the two that it reads -/
structure ZCells (z TI TO i1 i2 a b : Addr) : Prop where
  n1 : TI ≠ z
  n2 : TO ≠ z
  n3 : TI ≠ TO
  n4 : TI ≠ i1
  n5 : TI ≠ i2
  n6 : z ≠ i1
  n7 : z ≠ i2
  n8 : TO ≠ i1
  n9 : TO ≠ i2
  n10 : i1 ≠ i2
  a1 : a ≠ z
  a2 : a ≠ TO
  a3 : a ≠ i1
  a4 : a ≠ i2
  b1 : b ≠ z
  b2 : b ≠ TO
  b3 : b ≠ i1
  b4 : b ≠ i2
theorem ZCells.sep {z TI TO i1 i2 a b : Addr} (c : ZCells z TI TO i1 i2 a b) : ZipSep2 z TI TO i1 i2 [i1, a] [i2, b] where
  TIz := c.n1
  TOz := c.n2
  TITO := c.n3
  TIi1 := c.n4
  mem1 := List.mem_cons_self
  zf1 := by simp [c.n6, c.a1.symm]
  Tf1 := by simp [c.n8, c.a2.symm]
  TIi2 := c.n5
  mem2 := List.mem_cons_self
  zf2 := by simp [c.n7, c.b1.symm]
  Tf2 := by simp [c.n9, c.b2.symm]
  sep1_2 := by simp [c.n10, c.b3.symm]
  sep2_1 := by simp [c.n10.symm, c.a4.symm]
theorem zcells_new (n a b : Nat) (la : a < n) (lb : b < n) : ZCells (n + 4) (n + 2) (n + 3) n (n + 1) a b := by
  constructor <;> (show ¬ ((_ : Nat) = _)) <;> omega
theorem five {z TI TO i1 i2 q : Addr} (h : q ∈ [z, TI, TO, i1, i2]) : q = z ∨ (q = TI ∨ (q = TO ∨ (q = i1 ∨ q = i2))) := by simpa using h
theorem turn_zipM {P : Program} {w : World} {K : PySem.W.Frag} {el : List Expr} {kk : Nat} {tp : Pos} {a b z TI TO i1 i2 : Addr} (C : ZCells z TI TO i1 i2 a b) :
    Turn P w K (.Tuple el kk tp) (ItzM K a b) [z, TI, TO, i1, i2] z (fun i h => IsZip h z TI TO .none ∧ (IsTupOf2 h TI (.ref i1) (.ref i2) ∧ ((∃ x y, IsTupOf2 h TO x y) ∧ (h.IsListIter i1 a i ∧ h.IsTupleIter i2 b i)))) where
  mem := by simp
  obj := fun i h st c hc => by
    obtain ⟨g1, g2, ⟨u, v, g3⟩, ⟨o1, e1, _, d1⟩, ⟨o2, e2, _, d2⟩⟩ := st
    rcases five hc with q | q | q | q | q <;> rw [q]
    · exact ⟨_, g1, fun v q => nomatch q⟩
    · exact ⟨_, g2, fun v q => nomatch q⟩
    · exact ⟨_, g3, fun v q => nomatch q⟩
    · refine ⟨o1, e1, fun v q => ?_⟩
      rw [d1] at q
      cases q
    · refine ⟨o2, e2, fun v q => ?_⟩
      rw [d2] at q
      cases q
  keep := fun i h h' st k => by
    obtain ⟨g1, g2, ⟨u, v, g3⟩, g4, g5⟩ := st
    exact ⟨k _ (by simp) _ g1, k _ (by simp) _ g2, ⟨u, v, k _ (by simp) _ g3⟩, g4.at fun o y => k _ (by simp) o y, g5.at fun o y => k _ (by simp) o y⟩
  item := by
    intro X hP hw hK hc
    intro i pins s σ H E I hf st hg
    subst hP hw hK
    obtain ⟨g1, g2, ⟨x0, y0, g3⟩, g4, g5⟩ := st
    obtain ⟨xs, ys, x, y, qx, qy, hx, hy⟩ := hg
    obtain ⟨us, r1, p1, _⟩ := I.list qx
    obtain ⟨vs, r2, p2, _⟩ := I.tuple qy
    obtain ⟨u, hu, ru⟩ := r1.get hx
    obtain ⟨v, hv, rv⟩ := r2.get hy
    have zl : z < s.heap.objs.size := Heap.lt_size g1
    have D1 := Draws.list (prog := X.prog) (w := X.w) (A := X.A.in1) (I.ok.hd hc) i1 a C.a3 us.toArray
    have D2 := Draws.tuple (prog := X.prog) (w := X.w) (A := X.A.in1) (I.ok.hd hc) i2 b C.b4 vs.toArray
    have lu : i < us.toArray.size := by simpa using (List.getElem?_eq_some_iff.mp hu).1
    have lv : i < vs.toArray.size := by simpa using (List.getElem?_eq_some_iff.mp hv).1
    refine wpAny_pyNext_zipD2_item C.sep D1 D2 g1 g2 g3 ⟨g4, p1.isList⟩ ⟨g5, p2⟩ lu lv fun x1 x2 h1 tk ex ey z1 t1 s1 s2 hT hsz hk => ?_
    obtain rfl : x1 = u := by
      have ex : us.toArray[i]? = some x1 := ex
      simp [hu] at ex
      exact ex.symm
    obtain rfl : x2 = v := by
      have ey : vs.toArray[i]? = some x2 := ey
      simp [hv] at ey
      exact ey.symm
    refine ⟨_, rfl, wpAny_letOwnedTupleGo_zip (s := { s with heap := h1, toks := tk }) z1 fun h2 z2 sb => ?_⟩
    have T2 : h2.get? s.heap.objs.size = some { cls := .type "tuple", data := .seq #[x1, x2] } := (sb.2 _ (Nat.ne_of_gt zl)).trans hT
    have new : ObjOk X.prog X.w (upd H s.heap.objs.size (.tup [x, y])) h2 s.heap.objs.size (.tup [x, y]) := ⟨by show 2 ≤ sizeLine; decide, [x1, x2], .cons ru (.cons rv .nil), ⟨_, T2, rfl, _, rfl⟩⟩
    have k2 : ∀ c o, c ≠ z → c ≠ TO → c ≠ i1 → c ≠ i2 → s.heap.get? c = some o → h2.get? c = some o := fun c o c1 c2 c3 c4 e => (sb.2 c c1).trans (hk c o c1 c2 c3 c4 e)
    have I1 : Inv X pins σ (upd H s.heap.objs.size (.tup [x, y])) { s with heap := h2, toks := tk } :=
      I.turnedNew (ch := [z, TI, TO, i1, i2]) (fun c o hb => k2 c o (fun e => hb (by simp [e])) (fun e => hb (by simp [e])) (fun e => hb (by simp [e])) fun e => hb (by simp [e])) hf (Nat.le_refl _) new
    refine ⟨.ref s.heap.objs.size, _, I1, rfl, ⟨_, x, y, rfl, I.hok.fresh (Nat.le_refl _), rfl, fun l hl => ?_, fun l hl => ?_⟩, ⟨z2, k2 _ _ C.n1 C.n3 C.n4 C.n5 g2, ⟨x1, x2, (sb.2 _ C.n2).trans t1⟩, ?_, ?_⟩, fun c hcm => ?_⟩
    · rw [I.list_inj hl qx]
      exact hx
    · rw [I.tuple_inj hl qy]
      exact hy
    · exact s1.1.at fun o q => (sb.2 _ C.n6.symm).trans q
    · exact s2.1.at fun o q => (sb.2 _ C.n7.symm).trans q
    · have below : c < s.heap.objs.size := by
        rcases five hcm with q | q | q | q | q
        · exact q ▸ zl
        · exact q ▸ Heap.lt_size g2
        · exact q ▸ Heap.lt_size g3
        · obtain ⟨_, e, _⟩ := g4
          exact q ▸ Heap.lt_size e
        · obtain ⟨_, e, _⟩ := g5
          exact q ▸ Heap.lt_size e
      rw [upd_ne (Nat.ne_of_lt below)]
      exact (hf c hcm).1
  done := by
    intro X hP hw hK hc
    intro i pins s σ H E I hf st hg
    subst hP hw hK
    obtain ⟨g1, g2, ⟨x0, y0, g3⟩, g4, g5⟩ := st
    obtain ⟨xs, ys, qx, qy, l1, l2, l3⟩ := hg
    obtain ⟨us, r1, p1, _⟩ := I.list qx
    obtain ⟨vs, r2, p2, _⟩ := I.tuple qy
    have e1 := r1.length
    have e2 := r2.length
    have D1 := Draws.list (prog := X.prog) (w := X.w) (A := X.A.in1) (I.ok.hd hc) i1 a C.a3 us.toArray
    have D2 := Draws.tuple (prog := X.prog) (w := X.w) (A := X.A.in1) (I.ok.hd hc) i2 b C.b4 vs.toArray
    refine wpAny_pyNext_zipD2_end C.sep D1 D2 g1 g2 g3 ⟨g4, p1.isList⟩ ⟨g5, p2⟩ (by simp; omega) (by simp; omega) (by simp; omega) fun h1 tk hk => ⟨rfl, I.turnedL (ch := [z, TI, TO, i1, i2]) (fun c o hb => hk c o (fun e => hb (by simp [e])) (fun e => hb (by simp [e])) (fun e => hb (by simp [e])) fun e => hb (by simp [e])) hf⟩
  self := fun _ _ _ _ _ st h => wpAny_pyIter_zip st.1 h
def iZipM (K : PySem.W.Frag) (ta : TA) : TI := fun σ H R => ta σ H fun vs H1 => ∃ a b xs ys, vs = [.ref a, .ref b] ∧ (SqL K H1 a xs ∧ (SqT K H1 b ys ∧ R (ItzM K a b) H1))
theorem pi_zipM {X : Cx} {f1 f2 : Expr} {ta : TA} {p pos tpos : Pos} {elts : List Expr} {kk : Nat} (hg : Gl X "zip") (hm : X.mg "zip" = none) (ha : PA X [f1, f2] ta)
    (hs : starEach [f1, f2] X.env = (false, eval f1 X.env) :: starEach [f2] X.env := by rfl) (hpl : (backTo pos (starEach [f2] X.env)).any (·.1) = false := by rfl) :
    PI X (.Tuple elts kk tpos) (.Call (.Name "zip" p) [f1, f2] [] pos) (iZipM X.K ta) := by
  refine .mk ?_
  intro pins s σ H R I h
  refine Call_ (ld_blt I hg hm boot_zip (PyProof.Rows.callWith_type1 (thn (ha.run pos pins s σ H _ I h) fun us s1 q0 => ?_) hs hpl))
  obtain ⟨vs, H1, I1, r1, a, b, xs, ys, ex, qx, qy, q⟩ := q0
  subst ex
  obtain ⟨v1, v2, rfl, rfl, rfl⟩ : ∃ v1 v2, us = [v1, v2] ∧ v1 = .ref a ∧ v2 = .ref b := by
    cases r1 with
    | cons r r2 =>
      cases r2 with
      | cons r' r3 =>
        cases r3
        cases r
        cases r'
        exact ⟨_, _, rfl, rfl, rfl⟩
  obtain ⟨xv, rv, p1, _⟩ := I1.list qx
  obtain ⟨yv, rw', p2, _⟩ := I1.tuple qy
  have lta : a < s1.heap.objs.size := p1.lt
  have lb : b < s1.heap.objs.size := by
    obtain ⟨o, ho, _⟩ := id p2
    exact Heap.lt_size ho
  refine zip_begins2 (begins_list a xv.toArray) (begins_tuple b yv.toArray) p1.isList p2 fun h1 hz hTI hTO g1 g2 hsz hk => wpAny_pyIter_zip hz ?_
  have I2 : Inv X pins σ H1 { s1 with heap := h1 } := I1.kept (t' := s1.toks) hk
  have C : ZCells (s1.heap.objs.size + 4) (s1.heap.objs.size + 2) (s1.heap.objs.size + 3) s1.heap.objs.size (s1.heap.objs.size + 1) a b := zcells_new s1.heap.objs.size a b lta lb
  refine ⟨s1.heap.objs.size + 4, [s1.heap.objs.size + 4, s1.heap.objs.size + 2, s1.heap.objs.size + 3, s1.heap.objs.size, s1.heap.objs.size + 1], _, _, H1, rfl, I2, turn_zipM C, ⟨hz, hTI, ⟨_, _, hTO⟩, ⟨_, g1, rfl, rfl⟩, ⟨_, g2, rfl, rfl⟩⟩, fun c hcm => ?_, q⟩
  have above : s1.heap.objs.size ≤ c := by
    rcases five hcm with e | e | e | e | e <;> rw [e]
    · exact Nat.le_add_right _ 4
    · exact Nat.le_add_right _ 2
    · exact Nat.le_add_right _ 3
    · exact Nat.le_refl _
    · exact Nat.le_add_right _ 1
  exact I1.fpOk above (I1.hok.fresh above)
/-- zip of a list and a list or a tuple -/
def iZipU (K : PySem.W.Frag) (ta : TA) : TI := fun σ H R => iZip K ta σ H R ∨ iZipM K ta σ H R
theorem pi_zipU {X : Cx} {f1 f2 : Expr} {ta : TA} {p pos tpos : Pos} {elts : List Expr} {kk : Nat} (hg : Gl X "zip") (hm : X.mg "zip" = none) (ha : PA X [f1, f2] ta)
    (hs : starEach [f1, f2] X.env = (false, eval f1 X.env) :: starEach [f2] X.env := by rfl) (hpl : (backTo pos (starEach [f2] X.env)).any (·.1) = false := by rfl) :
    PI X (.Tuple elts kk tpos) (.Call (.Name "zip" p) [f1, f2] [] pos) (iZipU X.K ta) := by
  refine .mk ?_
  intro pins s σ H R I h
  rcases h with h | h
  · exact (pi_zip hg hm ha hs hpl).run pins s σ H R I h
  · exact (pi_zipM hg hm ha hs hpl).run pins s σ H R I h
/-- what yields pairs -/
structure Zipped (J : It) (xs ys : List V) (G : Hp → Prop) : Prop where
  go : ∀ i H, G H → i < xs.length → i < ys.length → J.go i H
  yld : ∀ i H v H', G H → J.yld i H v H' → ∃ T x y, v = .ref T ∧ H T = none ∧ H' = upd H T (.tup [x, y]) ∧ xs[i]? = some x ∧ ys[i]? = some y
  stop : ∀ i H, G H → i ≤ xs.length → i ≤ ys.length → (i = xs.length ∨ i = ys.length) → J.stop i H
end U
namespace U
open PySem PySem.Spec PyProof.Rows L2

/-! ### lists of small integers: their texts, and whether they are alike -/
theorem dp_ints {K : PySem.W.Frag} {H : Hp} {p : Addr} {ns : List Int} (h : SqL K H p (ns.map V.int)) : Dp K H (.ref p) (.list (ns.map PyData.int)) := by
  refine .lst h ?_
  clear h
  induction ns with
  | nil => exact .nil
  | cons n r ih => exact .cons (.int n) ih
section
variable {K : PySem.W.Frag} {H : Hp} {Q : VK} {p p' : Addr} {ns ms : List Int}
theorem ne_ints (h : SqL K H p (ns.map V.int)) (h' : SqL K H p' (ms.map V.int)) (q : Q (.bl (!decide (ns = ms))) H) : uNe K (.ref p) (.ref p') H Q := by
  refine ⟨_, _, dp_ints h, dp_ints h', PySem.W.ke_shaped_ints _, PySem.W.ke_shaped_ints _, ?_⟩
  rw [PyData.eqv, PySem.W.ked_eqvAll]
  exact q
end
/-! ### lists of texts -/
section
variable {K : PySem.W.Frag} {H : Hp}
end
end U
namespace U
open PySem PySem.Spec PyProof.Rows L2

/-! ### dict(zip(text, tuple)): a zip whose pair is still held by the loop that fills the dict -/
section
variable {P : Program} {w : World} {A : Around} {E : Value → Shared → Prop} {s : Shared} {z TI TO T i1 i2 : Addr} {fa fb : List Addr} {n m i : Nat} {R1 R2 : Nat → Value → Prop} {S1 S2 : Nat → Heap → Prop} {f : Bool} {oT : Obj}
end
end U
namespace U
open PySem PySem.Spec PyProof.Rows L2

/-! ### dict(zip(text, tuple)) -/
end U
namespace U
open PySem PySem.Spec PyProof.Rows L2

/-! ### str(x), by the kinds of x -/
end U
namespace U
open PySem PySem.Spec PyProof.Rows L2

/-! ### enumerate(tuple) -/
section
open Sem (wp)
end
end U
namespace U
open PySem PySem.Spec PyProof.Rows L2

/-! ### y = {k: v for ..} -/
section
variable {X : Cx}
end
end U
namespace U
open PySem PySem.Spec PyProof.Rows L2

/-! ### len(set(texts)), no text twice -/
section
variable {P : Program} {w : World} {A : Around} {E : Value → Shared → Prop} {xs : List Str} {items : Array Value}
local macro_rules | `(tactic| walk_at "g") => `(tactic| repeat (any_goals (first | assumption | wp_step)))
end
section
variable {X : Cx} {p p2 q pos : Pos} {a : Expr} {ta : TE}
end
end U
namespace U
open PySem PySem.Spec PyProof.Rows L2
/-! ### the table of turns -/
def turnsT : List (Str × List Int) := [("ab", [0, 1, 5, 2, 0, 1, 2]), ("ac", [1, 0, 3, 4, 0, 2, 1]), ("ba", [2, 3, 4, 0, 1, 0, 2]), ("bc", [3, 2, 1, 5, 1, 2, 0]), ("ca", [4, 5, 2, 1, 2, 0, 1]), ("cb", [5, 4, 0, 3, 2, 1, 0])]
def TuK (K : PySem.W.Frag) (w : World) : Prop := ∀ q ∈ turnsT, ∃ p, KDct K w (He.ga K "_TURNS") q.1 (.ref p) ∧ ∀ H, SqT K H p (q.2.map V.int)
def rTurn (K : PySem.W.Frag) : R2 := fun x y H Q => ∃ z ns, x = .ref (He.ga K "_TURNS") ∧ y = .str z ∧ (z, ns) ∈ turnsT ∧ ∀ p, SqT K H p (ns.map V.int) → Q (.ref p) H
theorem ix_turn {X : Cx} (h : TuK X.K X.w) : IxR X (rTurn X.K) := by
  intro ea eb pins s σ H x y u v Q I rx ry q
  obtain ⟨z, t, rfl, rfl, hm, q⟩ := q
  obtain ⟨p, h1, h2⟩ := h _ hm
  exact ix_kdict ea eb pins s σ H _ _ u v Q I rx ry ⟨_, z, _, rfl, rfl, h1, q p (h2 H)⟩
def tupAtB (K : PySem.W.Frag) (p : Addr) (ns : List Int) : Bool := match K.lookup p with
  | some ⟨.type c, _, .seq its _, _⟩ => decide (c = "tuple") && (decide (its.size ≤ sizeLine) && He.relAll (ns.map V.int) its.toList)
  | _ => false
theorem tupAtB_ok {K : PySem.W.Frag} {p : Addr} {ns : List Int} (h : tupAtB K p ns = true) (H : Hp) : SqT K H p (ns.map V.int) := by
  unfold tupAtB at h
  split at h
  · rename_i c dd its n sl e
    (simp only [Bool.and_eq_true, decide_eq_true_eq] at h)
    exact .inr ⟨_, its, n, e, congrArg Value.type h.1, rfl, h.2.1, He.relAll_ok h.2.2⟩
  · cases h
def tuB (K : PySem.W.Frag) : Bool := turnsT.all fun q => match PySem.W.nsIn K (He.ga K "_TURNS") q.1 with
  | some (some (.ref p)) => tupAtB K p q.2
  | _ => false
theorem tuK_of {K : PySem.W.Frag} {w : World} (hd : ∃ es n, KDict K w (He.ga K "_TURNS") es n) (hv : tuB K = true) : TuK K w := by
  obtain ⟨es, n, h1, h2, h3⟩ := hd
  intro q hq
  have := List.all_eq_true.mp hv q hq
  split at this
  · rename_i p e
    exact ⟨p, ⟨es, n, _, h1, h2, e, rfl⟩, tupAtB_ok this⟩
  · cases this
end U
namespace U
open PySem PySem.Spec PyProof.Rows L2
def excN : List Str := ["InvalidYard"]
end U
namespace U
open PySem PySem.Spec PyProof.Rows L2

def krB (K : PySem.W.Frag) : Bool := (He.Fa.cls "Reckoning").ok K && ((He.Fa.noat "Reckoning" "bound").ok K && ((He.Fa.noat "Reckoning" "prices").ok K && ((He.Fa.noat "Reckoning" "towers").ok K && ((He.Fa.noat "Reckoning" "_backwards").ok K && decide (He.ga K "Yard" ≠ He.ga K "Reckoning")))))
end U
namespace U
open PySem PySem.Spec PyProof.Rows L2
def top (i : Nat) : Stmt := PySem.Challenge.pw_cratetowers_k24_any_two_arrangements.main.body.getD i (.Pass ⟨0, 0, 0, 0⟩)
abbrev s_InvalidYard_init : Stmt := inClass (top 3) 0
abbrev s_InvalidArrangement_init : Stmt := inClass (top 5) 0
abbrev s_both_lines : Stmt := top 11
abbrev s_towers_above : Stmt := top 12
abbrev s_to_towers_above : Stmt := top 13
abbrev s__from_place : Stmt := top 14
abbrev s_turned : Stmt := top 15
abbrev s_reckoning_of : Stmt := top 16
abbrev s_without_bars : Stmt := top 17
abbrev s_Reckoning_init : Stmt := inClass (top 18) 0
abbrev s_Reckoning_backwards : Stmt := inClass (top 18) 1
abbrev s_Reckoning_to_towers : Stmt := inClass (top 18) 2
abbrev s_Reckoning_from_towers : Stmt := inClass (top 18) 3
abbrev s_Reckoning_cheapest : Stmt := inClass (top 18) 4
abbrev s_Reckoning_told : Stmt := inClass (top 18) 5
abbrev s_Reckoning_named : Stmt := inClass (top 18) 6
abbrev s_first_apart : Stmt := top 19
abbrev s_is_price : Stmt := top 28
abbrev s_is_integer : Stmt := top 29
abbrev s_check_yard : Stmt := top 33
abbrev s_Yard_init : Stmt := inClass (top 35) 0
abbrev s_Yard_len : Stmt := inClass (top 35) 3
abbrev s_Yard_rows : Stmt := inClass (top 35) 6
abbrev s_Yard_reckoning : Stmt := inClass (top 35) 8
abbrev s__are_rows : Stmt := top 36
abbrev s__is_price_row : Stmt := top 37
abbrev s_is_arrangement : Stmt := top 45
abbrev s_check_arrangement : Stmt := top 46
abbrev s_check_both : Stmt := top 47
abbrev s_to_towers : Stmt := top 49
abbrev s_from_towers : Stmt := top 50
abbrev s_least : Stmt := top 51
abbrev s_largest_moving : Stmt := top 52
abbrev s__law_cell : Stmt := top 54
abbrev s__law_bag : Stmt := top 55
abbrev s__law_take : Stmt := top 56
abbrev s__law_rows : Stmt := top 57
abbrev s__law_word : Stmt := top 58
abbrev s__law_price : Stmt := top 59
abbrev s__law_next : Stmt := top 60
abbrev s__law_far : Stmt := top 61
abbrev s__law_all : Stmt := top 62
abbrev s__law_right : Stmt := top 63
abbrev s_law : Stmt := top 64
abbrev mkD (at_ : PySem.W.Frag → Addr) (nm qual : Str) (st : Stmt) : He5.DefA := ⟨at_, nm, qual, defArgs st, defBody st, defScope st, [], []⟩
def d_InvalidYard_init : He5.DefA := mkD (fun K => He.ma K (He.ga K "InvalidYard") "__init__") "__init__" "InvalidYard.__init__" s_InvalidYard_init
def d_InvalidArrangement_init : He5.DefA := mkD (fun K => He.ma K (He.ga K "InvalidArrangement") "__init__") "__init__" "InvalidArrangement.__init__" s_InvalidArrangement_init
def d_both_lines : He5.DefA := mkD (fun K => He.ga K "both_lines") "both_lines" "both_lines" s_both_lines
def d_towers_above : He5.DefA := mkD (fun K => He.ga K "towers_above") "towers_above" "towers_above" s_towers_above
def d_to_towers_above : He5.DefA := mkD (fun K => He.ga K "to_towers_above") "to_towers_above" "to_towers_above" s_to_towers_above
def d__from_place : He5.DefA := mkD (fun K => He.ga K "_from_place") "_from_place" "_from_place" s__from_place
def d_turned : He5.DefA := mkD (fun K => He.ga K "turned") "turned" "turned" s_turned
def d_reckoning_of : He5.DefA := mkD (fun K => He.ga K "reckoning_of") "reckoning_of" "reckoning_of" s_reckoning_of
def d_without_bars : He5.DefA := mkD (fun K => He.ga K "without_bars") "without_bars" "without_bars" s_without_bars
def d_Reckoning_init : He5.DefA := mkD (fun K => He.ma K (He.ga K "Reckoning") "__init__") "__init__" "Reckoning.__init__" s_Reckoning_init
def d_Reckoning_backwards : He5.DefA := mkD (fun K => He.ma K (He.ga K "Reckoning") "backwards") "backwards" "Reckoning.backwards" s_Reckoning_backwards
def d_Reckoning_to_towers : He5.DefA := mkD (fun K => He.ma K (He.ga K "Reckoning") "to_towers") "to_towers" "Reckoning.to_towers" s_Reckoning_to_towers
def d_Reckoning_from_towers : He5.DefA := mkD (fun K => He.ma K (He.ga K "Reckoning") "from_towers") "from_towers" "Reckoning.from_towers" s_Reckoning_from_towers
def d_Reckoning_cheapest : He5.DefA := mkD (fun K => He.ma K (He.ga K "Reckoning") "cheapest") "cheapest" "Reckoning.cheapest" s_Reckoning_cheapest
def d_Reckoning_told : He5.DefA := mkD (fun K => He.ma K (He.ga K "Reckoning") "told") "told" "Reckoning.told" s_Reckoning_told
def d_Reckoning_named : He5.DefA := mkD (fun K => He.ma K (He.ga K "Reckoning") "named") "named" "Reckoning.named" s_Reckoning_named
def d_first_apart : He5.DefA := mkD (fun K => He.ga K "first_apart") "first_apart" "first_apart" s_first_apart
def d_is_price : He5.DefA := mkD (fun K => He.ga K "is_price") "is_price" "is_price" s_is_price
def d_is_integer : He5.DefA := mkD (fun K => He.ga K "is_integer") "is_integer" "is_integer" s_is_integer
def d_check_yard : He5.DefA := mkD (fun K => He.ga K "check_yard") "check_yard" "check_yard" s_check_yard
def d_Yard_init : He5.DefA := mkD (fun K => He.ma K (He.ga K "Yard") "__init__") "__init__" "Yard.__init__" s_Yard_init
def d_Yard_len : He5.DefA := mkD (fun K => He.ma K (He.ga K "Yard") "__len__") "__len__" "Yard.__len__" s_Yard_len
def d_Yard_rows : He5.DefA := mkD (fun K => He.ma K (He.ga K "Yard") "rows") "rows" "Yard.rows" s_Yard_rows
def d_Yard_reckoning : He5.DefA := mkD (fun K => He.ma K (He.ga K "Yard") "reckoning") "reckoning" "Yard.reckoning" s_Yard_reckoning
def d__are_rows : He5.DefA := mkD (fun K => He.ga K "_are_rows") "_are_rows" "_are_rows" s__are_rows
def d__is_price_row : He5.DefA := mkD (fun K => He.ga K "_is_price_row") "_is_price_row" "_is_price_row" s__is_price_row
def d_is_arrangement : He5.DefA := mkD (fun K => He.ga K "is_arrangement") "is_arrangement" "is_arrangement" s_is_arrangement
def d_check_arrangement : He5.DefA := mkD (fun K => He.ga K "check_arrangement") "check_arrangement" "check_arrangement" s_check_arrangement
def d_check_both : He5.DefA := mkD (fun K => He.ga K "check_both") "check_both" "check_both" s_check_both
def d_to_towers : He5.DefA := mkD (fun K => He.ga K "to_towers") "to_towers" "to_towers" s_to_towers
def d_from_towers : He5.DefA := mkD (fun K => He.ga K "from_towers") "from_towers" "from_towers" s_from_towers
def d_least : He5.DefA := mkD (fun K => He.ga K "least") "least" "least" s_least
def d_largest_moving : He5.DefA := mkD (fun K => He.ga K "largest_moving") "largest_moving" "largest_moving" s_largest_moving
def d__law_cell : He5.DefA := mkD (fun K => He.ga K "_law_cell") "_law_cell" "_law_cell" s__law_cell
def d__law_bag : He5.DefA := mkD (fun K => He.ga K "_law_bag") "_law_bag" "_law_bag" s__law_bag
def d__law_take : He5.DefA := mkD (fun K => He.ga K "_law_take") "_law_take" "_law_take" s__law_take
def d__law_rows : He5.DefA := mkD (fun K => He.ga K "_law_rows") "_law_rows" "_law_rows" s__law_rows
def d__law_word : He5.DefA := mkD (fun K => He.ga K "_law_word") "_law_word" "_law_word" s__law_word
def d__law_price : He5.DefA := mkD (fun K => He.ga K "_law_price") "_law_price" "_law_price" s__law_price
def d__law_next : He5.DefA := mkD (fun K => He.ga K "_law_next") "_law_next" "_law_next" s__law_next
def d__law_far : He5.DefA := mkD (fun K => He.ga K "_law_far") "_law_far" "_law_far" s__law_far
def d__law_all : He5.DefA := mkD (fun K => He.ga K "_law_all") "_law_all" "_law_all" s__law_all
def d__law_right : He5.DefA := mkD (fun K => He.ga K "_law_right") "_law_right" "_law_right" s__law_right
def d_law : He5.DefA := mkD (fun K => He.ga K "law") "law" "law" s_law
def fn : List He5.DefA := [d_InvalidYard_init, d_InvalidArrangement_init, d_both_lines, d_towers_above, d_to_towers_above, d__from_place, d_turned, d_reckoning_of, d_without_bars, d_Reckoning_init, d_Reckoning_backwards, d_Reckoning_to_towers, d_Reckoning_from_towers, d_Reckoning_cheapest, d_Reckoning_told, d_Reckoning_named, d_first_apart, d_is_price, d_is_integer, d_check_yard, d_Yard_init, d_Yard_len, d_Yard_rows, d_Yard_reckoning, d__are_rows, d__is_price_row, d_is_arrangement, d_check_arrangement, d_check_both, d_to_towers, d_from_towers, d_least, d_largest_moving, d__law_cell, d__law_bag, d__law_take, d__law_rows, d__law_word, d__law_price, d__law_next, d__law_far, d__law_all, d__law_right, d_law]
def fa : List He.Fa := [.glo "InvalidArrangement", .glo "InvalidYard", .glo "PLACES", .glo "Reckoning", .glo "WAYS", .glo "Yard", .glo "_TURNS", .glo "_are_rows", .glo "_from_place", .glo "_is_price_row", .glo "_law_all", .glo "_law_bag", .glo "_law_cell", .glo "_law_far", .glo "_law_next", .glo "_law_price", .glo "_law_right", .glo "_law_rows", .glo "_law_take", .glo "_law_word", .glo "both_lines", .glo "check_arrangement", .glo "check_both", .glo "check_yard", .glo "first_apart", .glo "from_towers", .glo "is_arrangement", .glo "is_integer", .glo "is_price", .glo "largest_moving", .glo "law", .glo "least", .glo "reckoning_of", .glo "to_towers", .glo "to_towers_above", .glo "towers_above", .glo "turned", .glo "without_bars", .int "MOST_CRATES" 60, .str "_PLACE_SIGNS" "abc", .free "all", .free "any", .free "bool", .free "dict", .free "enumerate", .free "int", .free "isinstance", .free "len", .free "list", .free "max", .free "min", .free "range", .free "repr", .free "str", .free "tuple", .free "zip", .mkr "Yard", .mkr "Reckoning", .meth "Reckoning" "__init__", .meth "Reckoning" "backwards", .meth "Reckoning" "to_towers", .meth "Reckoning" "from_towers", .meth "Reckoning" "cheapest", .meth "Reckoning" "told", .meth "Reckoning" "named", .meth "Yard" "__init__", .meth "Yard" "__len__", .meth "Yard" "rows", .meth "Yard" "reckoning"]
def ts : List He.Tab := [((fun K => He.ga K "_TURNS"), turnsT.map (·.1))]
def ex (K : PySem.W.Frag) : Bool := kfB K && sysB K && xFB "CratesError" excN K && krB K && tuB K && excB K "InvalidArrangement" "value" && excB K "InvalidYard" "value"
abbrev AlM : Type := (He.AlD × List (Option (List (Option (Str × Int))))) × Bool
def asM (g : Addr → Option Obj) (n : Nat) : List Addr := He5.asA g n ++ [sysModules]
def tabsM (ts : List He.Tab) (K : PySem.W.Frag) : List (Option (List (Option (Str × Int)))) := ts.map fun t => He.dicW K (t.1 K)
def keysM (ts : List He.Tab) (w : World) : List (Option (List (Option (Str × Int)))) := ts.map fun t => some (He.keysIn w.params t.2)
def obsM (n : Nat) (fa : List He.Fa) (fn : List He5.DefA) (ts : List He.Tab) (ex : PySem.W.Frag → Bool) (g : Addr → Option Obj) : AlM := ((He5.obsA fa fn (He.frG g (asM g n)), tabsM ts (He.frG g (asM g n))), ex (He.frG g (asM g n)))
def hookM (n : Nat) (fa : List He.Fa) (fn : List He5.DefA) (ts : List He.Tab) (ex : PySem.W.Frag → Bool) : PySem.W.Hook where
  α := AlM
  obs := fun s => obsM n fa fn ts ex s.heap.get?
  val := fun w => ((He5.valA fn, keysM ts w), true)
  says := fun w h => ∃ K : PySem.W.Frag, K.In h ∧ (He5.SaysA fa fn K ∧ tabsM ts K = keysM ts w) ∧ ex K = true
  of := fun _ _ e => ⟨_, He.frG_in, ⟨congrArg (fun z : AlM => z.1.1) e, congrArg (fun z : AlM => z.1.2) e⟩, congrArg (fun z : AlM => z.2) e⟩
  keeps := fun _ _ _ held kept => held.elim fun K z => ⟨K, z.1.keeps kept, z.2⟩
theorem obsM_eq {n : Nat} {fa : List He.Fa} {fn : List He5.DefA} {ts : List He.Tab} {ex : PySem.W.Frag → Bool} {g : Addr → Option Obj} {s : Shared} (h : ∀ a, g a = s.heap.get? a) : obsM n fa fn ts ex g = (hookM n fa fn ts ex).obs s := by
  obtain rfl : g = s.heap.get? := funext h
  rfl
theorem tabM {ts : List He.Tab} {w : World} {K : PySem.W.Frag} (c : tabsM ts K = keysM ts w) (i : Nat) {t : He.Tab} (h : ts[i]? = some t := by rfl) : ∃ es n, KDict K w (t.1 K) es n := by
  have e : (tabsM ts K)[i]? = (keysM ts w)[i]? := by rw [c]
  unfold tabsM keysM at e
  rw [List.getElem?_map, List.getElem?_map, h] at e
  exact He.dicW_ok (Option.some.inj e)
abbrev RowR : PySem.W.OpenRow := PySem.W.OpenLaw.row PySem.Challenge.rw_cratetowers_k24_any_two_arrangements
abbrev hk : PySem.W.Hook := hookM 6 fa fn ts ex
def ob (s : PySem.W.SharedT) : AlM := obsM 6 fa fn ts ex (HandSHeadRun.getT s)
theorem ob_eq (s : PySem.W.SharedT) : ob s = hk.obs s.abs := obsM_eq (HandSHeadRun.getT_eq s)
def loose0 : List Str := [PySem.Str.ofString "_wall", PySem.Str.ofString "CratesError", PySem.Str.ofString "InvalidYard", PySem.Str.ofString "InvalidText", PySem.Str.ofString "InvalidArrangement", PySem.Str.ofString "InvalidWay", PySem.Str.ofString "InvalidCrate", PySem.Str.ofString "InvalidCount", PySem.Str.ofString "_TURNS", PySem.Str.ofString "both_lines", PySem.Str.ofString "towers_above", PySem.Str.ofString "to_towers_above", PySem.Str.ofString "_from_place", PySem.Str.ofString "turned", PySem.Str.ofString "reckoning_of", PySem.Str.ofString "without_bars", PySem.Str.ofString "Reckoning", PySem.Str.ofString "first_apart", PySem.Str.ofString "PLACES", PySem.Str.ofString "WAYS", PySem.Str.ofString "COLUMNS", PySem.Str.ofString "MOST_CRATES", PySem.Str.ofString "_DIGITS", PySem.Str.ofString "_BAR", PySem.Str.ofString "is_way", PySem.Str.ofString "is_price", PySem.Str.ofString "is_integer", PySem.Str.ofString "is_integer_within", PySem.Str.ofString "is_numeral", PySem.Str.ofString "check_way"]
def loose1 : List Str := [PySem.Str.ofString "check_yard", PySem.Str.ofString "check_crate", PySem.Str.ofString "Yard", PySem.Str.ofString "_are_rows", PySem.Str.ofString "_is_price_row", PySem.Str.ofString "_is_yard_text", PySem.Str.ofString "_is_line", PySem.Str.ofString "_is_price_text", PySem.Str.ofString "_price_text", PySem.Str.ofString "_price_of", PySem.Str.ofString "_PLACE_SIGNS", PySem.Str.ofString "is_arrangement", PySem.Str.ofString "check_arrangement", PySem.Str.ofString "check_both", PySem.Str.ofString "to_towers", PySem.Str.ofString "from_towers", PySem.Str.ofString "least", PySem.Str.ofString "largest_moving", PySem.Str.ofString "_law_cell", PySem.Str.ofString "_law_bag", PySem.Str.ofString "_law_take", PySem.Str.ofString "_law_rows", PySem.Str.ofString "_law_word", PySem.Str.ofString "_law_price", PySem.Str.ofString "_law_next", PySem.Str.ofString "_law_far", PySem.Str.ofString "_law_all", PySem.Str.ofString "_law_right"]
def loose : List Str := loose0 ++ loose1
theorem run_f (w : World) : HandSHeadRun.RunEq RowR (PySem.W.view RowR.prog [64]) hk ob 20000 loose (w.withFollow "special-get-raises" false) := by
  intro os
  kernel_rfl
theorem run_t (w : World) : HandSHeadRun.RunEq RowR (PySem.W.view RowR.prog [64]) hk ob 20000 loose (w.withFollow "special-get-raises" true) := by
  intro os
  kernel_rfl
theorem run (w : World) : HandSHeadRun.RunEq RowR (PySem.W.view RowR.prog [64]) hk ob 20000 loose w :=
  PySem.W.byRow2 "special-get-raises" (P := fun w => HandSHeadRun.RunEq RowR (PySem.W.view RowR.prog [64]) hk ob 20000 loose w) run_f run_t w
end U
namespace U
open PySem PySem.Spec PyProof.Rows L2

/-! ### yards -/
def pV : Option Int → V
  | none => .non
  | some i => .int i
def SqA (K : PySem.W.Frag) (H : Hp) (p : Addr) (xs : List V) : Prop := SqL K H p xs ∨ SqT K H p xs
def okP : Option Int → Bool
  | none => true
  | some i => decide (0 < i)
/-- at y a yard of these rows -/
def Yd (K : PySem.W.Frag) (H : Hp) (y : Addr) (rows : List (List (Option Int))) : Prop :=
  ∃ (dx t : Addr) (as : List Addr), (∃ rk, H y = some (.ins (He.ga K "Yard") dx [("_rows", .ref t), ("_reckoning", rk)])) ∧ SqT K H t (as.map V.ref) ∧ as.length = rows.length ∧ rows.length ≤ 60 ∧ 1 ≤ rows.length ∧
    (∀ (i : Nat) (a : Addr) (r : List (Option Int)), as[i]? = some a → rows[i]? = some r → SqT K H a (r.map pV)) ∧ ∀ r ∈ rows, r.length = 6 ∧ r.all okP = true
section
variable {K : PySem.W.Frag} {H H' : Hp}
theorem SqA.same {p : Addr} {xs : List V} (e : Same H H') (h : SqA K H p xs) : SqA K H' p xs := h.imp (Same.seq e) (Same.sqT e)
theorem Yd.same {y : Addr} {rows : List (List (Option Int))} (e : Same H H') (h : Yd K H y rows) : Yd K H' y rows := by
  obtain ⟨dx, t, as, ⟨rk, h1⟩, h2, h3, h4, h5, h6, h7⟩ := h
  exact ⟨dx, t, as, ⟨rk, e _ _ h1⟩, Same.sqT e h2, h3, h4, h5, fun i a r q1 q2 => Same.sqT e (h6 i a r q1 q2), h7⟩
theorem Is.same {x : V} {a : Ty} (e : Same H H') (h : Is K H x a) : Is K H' x a := by
  have key : ∀ t, TyX K H x t → TyX K H' x t := by
    intro t h
    cases h with
    | base b =>
      refine .base ?_
      cases b with
      | non => exact .non
      | bl b => exact .bl b
      | int i => exact .int i
      | str z => exact .str z
      | flt z => exact .flt z
      | lst q => exact .lst (e _ _ q)
      | frz q => exact .frz (e _ _ q)
      | tup q => exact .tup (e _ _ q)
      | dK q => exact .dK (e _ _ q)
      | dT q => exact .dT (e _ _ q)
      | ins q a b c d f => exact .ins (e _ _ q) a b c d f
    | byt b => exact .byt b
    | set q => exact .set (e _ _ q)
    | kList q c => exact .kList q c
    | kTuple q c => exact .kTuple q c
    | kDict q c => exact .kDict q c
    | fTuple q => exact .fTuple (e _ _ q)
    | fDict q => exact .fDict (e _ _ q)
  exact key _ h
end
/-- an exception c with the value v, from any later heap -/
def Rz (K : PySem.W.Frag) (c f : Str) (v : V) (H : Hp) (E : XK) : Prop := ∀ d H', Same H H' → H' d = none → E (.ref (He.ga K c)) (some d) (upd H' d (.xd [(f, v)]))
theorem Rz.same {K : PySem.W.Frag} {c f : Str} {v : V} {H H' : Hp} {E : XK} (e : Same H H') (h : Rz K c f v H E) : Rz K c f v H' E := fun d H2 s n => h d H2 (e.trans s) n
/-- raise C(x), x the i-th name -/
theorem rse_var {K : PySem.W.Frag} {c f : Str} {E : XK} {i : Nat} {v : V} {σ : L2.St} {H : Hp} {D : Ends} (hv : σ[i]? = some (some v)) (h : Rz K c f v H E) : tRse K c f E (tCons (tVar i) tNil) D σ H :=
  ⟨v, hv, rse_of fun d hd => h d H (Same.refl H) hd⟩

/-! ### what the small judges answer -/
def isPl : V → Bool
  | .str z => decide (z = "a") || decide (z = "b") || decide (z = "c")
  | _ => false
def isI : V → Bool
  | .int _ => true
  | _ => false
def isPr : V → Bool
  | .int i => decide (0 < i)
  | _ => false
def isPB : V → Bool
  | .non => true
  | .int i => decide (0 < i)
  | _ => false
def sp_is_integer (K : PySem.W.Frag) : Sp := sp1 fun x H Q _ => ∃ a, Is K H x a ∧ Q (.bl (isI x)) H
def sp_is_price (K : PySem.W.Frag) : Sp := sp1 fun x H Q _ => ∃ a, Is K H x a ∧ Q (.bl (isPr x)) H
def sp_check_yard (K : PySem.W.Frag) : Sp := sp1 fun x H Q E => ∃ a, Is K H x a ∧ (a = .yard → Q .non H) ∧ (a ≠ .yard → Rz K "InvalidYard" "value" x H E)
def sp_Yard_len (K : PySem.W.Frag) : Sp := sp1 fun x H Q _ => ∃ y rows, x = .ref y ∧ Yd K H y rows ∧ Q (.int (rows.length : Int)) H
def t_is_integer (K : PySem.W.Frag) (E : XK) : TS := (tRet (tAndV (tCB (uIsi K) (tCons (tVar 0) (tCons (tC (.ty "int")) tNil))) (tNotV (tCB (uIsi K) (tCons (tVar 0) (tCons (tC (.ty "bool")) tNil))))))
def t_is_price (K : PySem.W.Frag) (E : XK) : TS := (tRet (tAndV (tFn (sp_is_integer K) E (tCons (tVar 0) tNil)) (tOp uGt (tVar 0) (tC (.int 0)))))
def t_check_yard (K : PySem.W.Frag) (E : XK) : TS := (tIfS (tNot (tB (tCB (uIsi K) (tCons (tVar 0) (tCons (tC (.ref (He.ga K "Yard"))) tNil))))) (tRse K "InvalidYard" "value" E (tCons (tVar 0) tNil)) tNext)
def t_Yard_len (K : PySem.W.Frag) (E : XK) : TS := (tRet (tCB (uLen K) (tCons (tFld K (tVar 0) "_rows") tNil)))
section
variable {K : PySem.W.Frag} (F : KF K) {vs : List V} {H : Hp} {Q : VK} {E : XK}
theorem isi_ty {x : V} {a b : Ty} {T : String} (F : KF K) (hT : b.v K = .type T) (h : Is K H x a) (q : Q (.bl (a.sub b)) H) : uIsi K [x, .ty T] H Q := by
  have k := F.kit a b
  rw [hT] at k
  exact ⟨a.v K, a.sub b, h, k, q⟩
theorem Is.of_str {z : Str} {a : Ty} (h : Is K H (.str z) a) : a = .str := by
  have key : ∀ t, TyX K H (.str z) t → t = a.v K → a = .str := by
    intro t h e
    cases h with
    | base b =>
      cases b
      cases a <;> first | rfl | (injection e with e; exact absurd e (by decide)) | cases e
  exact key _ h rfl
theorem Is.of_int {z : Int} {a : Ty} (h : Is K H (.int z) a) : a = .int := by
  have key : ∀ t, TyX K H (.int z) t → t = a.v K → a = .int := by
    intro t h e
    cases h with
    | base b =>
      cases b
      cases a <;> first | rfl | (injection e with e; exact absurd e (by decide)) | cases e
  exact key _ h rfl
theorem Is.of_bl {z : Bool} {a : Ty} (h : Is K H (.bl z) a) : a = .bl := by
  have key : ∀ t, TyX K H (.bl z) t → t = a.v K → a = .bl := by
    intro t h e
    cases h with
    | base b =>
      cases b
      cases a <;> first | rfl | (injection e with e; exact absurd e (by decide)) | cases e
  exact key _ h rfl
/-! one step of a reading -/
local macro_rules | `(tactic| walk_at "w") => `(tactic| simp only [tRet, tAndV, tOrV, tNotV, tCB, tCons, tVar, tNil, tC, tOp, tSeq, tAsg, gName, tIfS, tDrop, tFn, tTup, tLst, tNext, tB, tTest, tNot, tAnd, tOr, tIf, tChain, tUn, rU, tFld,
  L2.start, List.map_cons, List.map_nil, List.length_cons, List.length_nil, List.replicate_succ, List.replicate_zero, List.append_nil, List.nil_append, List.cons_append, List.singleton_append, Nat.sub_self, Nat.zero_add, Nat.reduceAdd, Nat.reduceSub,
  List.getElem?_cons_zero, List.getElem?_cons_succ, List.set_cons_zero, List.set_cons_succ, Option.some.injEq, exists_eq_left, exists_eq_left', V.int.injEq, V.bl.injEq, V.str.injEq, V.ref.injEq,
  uAdd, uSub, uMul, uDiv, uMod, uPow, uCmp, uLt, uLe, uGt, uGe, uIs, uNis, sp1, sp2, sp3, sp4])

theorem isI_of {x : V} {a : Ty} (ha : Is K H x a) : isI x = (a.sub .int && !a.sub .bl) := by
  cases x with
  | int i => rw [ha.of_int]; rfl
  | bl b => rw [ha.of_bl]; rfl
  | _ =>
    have h1 : a ≠ .int := by
      rintro rfl
      obtain ⟨i, e⟩ := ha.int_inv
      cases e
    have h2 : a ≠ .bl := by
      rintro rfl
      obtain ⟨i, e⟩ := ha.bl_inv
      cases e
    simp [isI, Ty.sub, h1, h2]
include F in
theorem read_is_integer (h : sp_is_integer K vs H Q E) : t_is_integer K E { nx := fun _ H' => Q .non H', rt := Q } (start ["value"] vs) H := by
  match vs, h with
  | [x], ⟨a, ha, q⟩ =>
    unfold t_is_integer
    rw [isI_of ha] at q
    walk_at "w"
    refine isi_ty (b := .int) F rfl ha ?_
    walk_at "w"
    cases e : a.sub .int with
    | false => simpa [e] using q
    | true =>
      simp only [if_true]
      refine isi_ty (b := .bl) F rfl ha ?_
      simpa [e, TruV] using q
include F in
theorem read_is_price (h : sp_is_price K vs H Q E) : t_is_price K E { nx := fun _ H' => Q .non H', rt := Q } (start ["value"] vs) H := by
  match vs, h with
  | [x], ⟨a, ha, q⟩ =>
    unfold t_is_price sp_is_integer
    walk_at "w"
    refine ⟨a, ha, ?_⟩
    cases x with
    | int i => simpa [isI, isPr] using q
    | _ => simpa [isI, isPr] using q
include F in
theorem read_check_yard (h : sp_check_yard K vs H Q E) : t_check_yard K E { nx := fun _ H' => Q .non H', rt := Q } (start ["yard"] vs) H := by
  match vs, h with
  | [x], ⟨a, ha, q1, q2⟩ =>
    unfold t_check_yard
    walk_at "w"
    refine .inl ⟨a.v K, a.sub .yard, ha, F.kit a .yard, _, rfl, ?_⟩
    cases e : a.sub .yard with
    | true => exact q1 (by cases a <;> first | rfl | cases e)
    | false =>
      refine rse_var (K := K) (c := "InvalidYard") (f := "value") (E := E) (σ := [some x]) (i := 0) (D := { nx := fun _ H' => Q .non H', rt := Q }) rfl (q2 ?_)
      rintro rfl
      cases e
include F in
theorem read_Yard_len (h : sp_Yard_len K vs H Q E) : t_Yard_len K E { nx := fun _ H' => Q .non H', rt := Q } (start ["self"] vs) H := by
  match vs, h with
  | [_], ⟨y, rows, rfl, ⟨dx, t, as, ⟨rk, h1⟩, h2, h3, h4, h5, h6⟩, q⟩ =>
    unfold t_Yard_len
    walk_at "w"
    refine ⟨y, _, _, _, .ref t, rfl, h1, F.cl, F.na, rfl, ?_⟩
    refine ⟨_, .inr h2, ?_⟩
    rw [List.length_map, h3]
    exact q
end
end U
namespace U
open PySem PySem.Spec PyProof.Rows L2

/-! ### heaps that keep all but one -/
def Off (D : Addr) (H H' : Hp) : Prop := ∀ b o, b ≠ D → H b = some o → H' b = some o
section
variable {K : PySem.W.Frag} {H H' H2 : Hp} {D a p : Addr} {xs l : List V} {o : HO}
theorem Off.refl : Off D H H := fun _ _ _ h => h
theorem Same.off (h : Same H H') : Off D H H' := fun b o _ e => h b o e
theorem Off.trans (h : Off D H H') (g : Off D H' H2) : Off D H H2 := fun b o n e => g b o n (h b o n e)
theorem off_upd : Off D H (upd H D o) := fun b u n e => by rw [upd_ne n]; exact e
theorem Off.same (h : Off D H H') (n : H D = none) : Same H H' := fun b o e => h b o (ne_of_none e n) e
theorem Off.sqT (h : Off D H H') (hD : H D = some (.lst l)) (q : SqT K H a xs) : SqT K H' a xs := by
  rcases q with (q | ⟨o, q⟩) | q
  · exact .inl (.inl (h _ _ (by rintro rfl; rw [hD] at q; cases q) q))
  · exact .inl (.inr ⟨o, h _ _ (by rintro rfl; rw [hD] at q; cases q) q⟩)
  · exact .inr q
theorem Off.yd {y : Addr} {rows : List (List (Option Int))} (e : Off D H H') (hD : H D = some (.lst l)) (h : Yd K H y rows) : Yd K H' y rows := by
  obtain ⟨dx, t, as, ⟨rk, h1⟩, h2, h3, h4, h5, h6, h7⟩ := h
  exact ⟨dx, t, as, ⟨rk, e _ _ (by rintro rfl; rw [hD] at h1; cases h1) h1⟩, e.sqT hD h2, h3, h4, h5, fun i a r q1 q2 => e.sqT hD (h6 i a r q1 q2), h7⟩
end
/-! ### what is walked without a change of the heap -/
structure Plain (J : It) (xs : List V) (G : Hp → Prop) : Prop where
  go : ∀ i H, G H → i < xs.length → J.go i H
  yld : ∀ i H x H', G H → J.yld i H x H' → H' = H ∧ (i < xs.length → xs[i]? = some x)
  stop : ∀ i H, G H → i = xs.length → J.stop i H
section
variable {K : PySem.W.Frag} {a : Addr} {xs : List V}
theorem plain_L : Plain (Itl K a) xs fun H => SqL K H a xs :=
  ⟨fun i H h lt => ⟨xs, xs[i], h, List.getElem?_eq_getElem lt⟩, fun i H x H' h ⟨e, q⟩ => ⟨e, fun _ => q xs h⟩, fun i H h e => ⟨xs, h, Nat.le_of_eq e.symm⟩⟩
theorem plain_T : Plain (Itt K a) xs fun H => SqT K H a xs :=
  ⟨fun i H h lt => ⟨xs, xs[i], h, List.getElem?_eq_getElem lt⟩, fun i H x H' h ⟨e, q⟩ => ⟨e, fun _ => q xs h⟩, fun i H h e => ⟨xs, h, Nat.le_of_eq e.symm⟩⟩
theorem strL_len (z : Str) : (strL z).length = z.cps.size := by simp [strL]
theorem plain_S {z : Str} : Plain (Its z) (strL z) fun _ => True :=
  ⟨fun i H h lt => by rw [strL_len] at lt; exact lt, fun i H x H' h ⟨e, c, q1, q2⟩ => ⟨e, fun _ => by
    subst q2
    unfold strL
    rw [List.getElem?_map, Array.getElem?_toList, q1]
    rfl⟩, fun i H h e => by rw [strL_len] at e; exact Nat.le_of_eq e.symm⟩
def intsL (lo : Int) (n : Nat) : List V := (List.range n).map fun (i : Nat) => V.int (lo + (i : Int))
theorem plain_R {lo : Int} {n : Nat} : Plain (Itr lo n) (intsL lo n) fun _ => True :=
  ⟨fun i H h lt => by
    have lt : i < n := by simpa [intsL] using lt
    exact lt, fun i H x H' h ⟨e, q2⟩ => ⟨e, fun lt => by
    subst q2
    have lt : i < n := by simpa [intsL] using lt
    simp [intsL, lt]⟩, fun i H h e => by
    have : i = n := by simpa [intsL] using e
    exact Nat.le_of_eq this.symm⟩
/-- the ends of a loop's body: N behind it -/
abbrev turnE (D : Ends) (N : L2.St → Hp → Prop) : Ends := { D with nx := N, ct := N, bk := D.nx }
theorem for_plain {J : It} {G : Hp → Prop} (P : Plain J xs G) {wi : TI} {g : TG} {tb : TS} {D : Ends} {σ : L2.St} {H : Hp} (hw : ∀ R : It → Hp → Prop, R J H → wi σ H R) (Pv : Nat → L2.St → Hp → Prop) (h0 : Pv 0 σ H) (hG : ∀ i σ H, Pv i σ H → G H)
    (hs : ∀ i x τ H, xs[i]? = some x → Pv i τ H → g x τ H fun ρ H2 => tb (turnE D (Pv (i + 1))) ρ H2) (hd : ∀ τ H, Pv xs.length τ H → D.nx τ H) : tFor wi g tb D σ H := by
  refine hw _ ?_
  have start0 : xs.length = xs.length - 0 ∧ 0 ≤ xs.length ∧ Pv 0 σ H := ⟨rfl, Nat.zero_le _, h0⟩
  refine ⟨fun i m τ H => m = xs.length - i ∧ i ≤ xs.length ∧ Pv i τ H, ⟨_, start0⟩, ?_⟩
  rintro i m σ H ⟨rfl, hi, p⟩
  have q := hG i σ H p
  by_cases hlt : i < xs.length
  · refine .inr ⟨P.go i H q hlt, Pv (i + 1), fun σ' H' p' => ⟨xs.length - (i + 1), by omega, rfl, hlt, p'⟩, fun x H' y => ?_⟩
    obtain ⟨rfl, hx⟩ := P.yld i H x H' q y
    exact hs i x σ H' (hx hlt) p
  · have atEnd : i = xs.length := Nat.le_antisymm hi (Nat.le_of_not_lt hlt)
    exact .inl ⟨P.stop i H q atEnd, hd σ H (atEnd ▸ p)⟩
theorem it_plain {J : It} {G : Hp → Prop} (P : Plain J xs G) {B : V → Hp → (Hp → Prop) → Prop} {H0 : Hp} {fin : Hp → Prop} (Pv : Nat → Hp → Prop) (h0 : Pv 0 H0) (hG : ∀ i H, Pv i H → G H)
    (hs : ∀ i x H, xs[i]? = some x → Pv i H → B x H (Pv (i + 1))) (hd : ∀ H, Pv xs.length H → fin H) : Laps J H0 fin B := by
  have start0 : xs.length = xs.length - 0 ∧ 0 ≤ xs.length ∧ Pv 0 H0 := ⟨rfl, Nat.zero_le _, h0⟩
  refine ⟨fun i m H => m = xs.length - i ∧ i ≤ xs.length ∧ Pv i H, ⟨_, start0⟩, ?_⟩
  rintro i m H ⟨rfl, hi, p⟩
  have q := hG i H p
  by_cases hlt : i < xs.length
  · refine .inr ⟨P.go i H q hlt, Pv (i + 1), fun H' p' => ⟨xs.length - (i + 1), by omega, rfl, hlt, p'⟩, fun x H' y => ?_⟩
    obtain ⟨rfl, hx⟩ := P.yld i H x H' q y
    exact hs i x H' (hx hlt) p
  · have atEnd : i = xs.length := Nat.le_antisymm hi (Nat.le_of_not_lt hlt)
    exact .inl ⟨P.stop i H q atEnd, hd H (atEnd ▸ p)⟩
theorem lc_plain {J : It} {G : Hp → Prop} (P : Plain J xs G) {g : TG} {tt : TT} {te : TE} {vs : List Nat} {σ : L2.St} {H1 : Hp} {D : Addr} {Qd : Hp → Prop} (Pv : Nat → Hp → Prop) (h0 : Pv 0 (upd H1 D (.lst []))) (hG : ∀ i H, Pv i H → G H)
    (hs : ∀ i x H, xs[i]? = some x → Pv i H → lcT g tt te vs σ D (Pv (i + 1)) x H) (hd : ∀ H, Pv xs.length H → Qd H) : LcB J g tt te vs σ H1 D Qd :=
  it_plain P Pv h0 hG hs hd
/-- [te for name j in ..], whose turns only make new things -/
theorem lc_grow {J : It} {G : Hp → Prop} (P : Plain J xs G) {te : TE} {j : Nat} {σ : L2.St} {H1 : Hp} {D : Addr} {Qd : Hp → Prop} (R : List V → Hp → Prop) (hD : H1 D = none) (hlen : xs.length ≤ sizeLine)
    (hG : ∀ H, Same H1 H → G H) (h0 : ∀ H, Same H1 H → R [] H) (hup : ∀ acc l H H', H D = some (.lst l) → Off D H H' → R acc H → R acc H')
    (hs : ∀ i x acc H (Q : VK), xs[i]? = some x → Same H1 H → acc.length = i → R acc H → (∀ y H4, Same H H4 → R (acc ++ [y]) H4 → Q y H4) → te (σ.set j (some x)) H Q)
    (hd : ∀ acc H, acc.length = xs.length → Same H1 H → H D = some (.lst acc) → R acc H → Qd H) : LcB J (gName j) tYes te [j] σ H1 D Qd := by
  refine lc_plain P (fun i H => ∃ acc, acc.length = i ∧ H D = some (.lst acc) ∧ Same H1 H ∧ R acc H) ⟨[], rfl, upd_same, same_new hD, h0 _ (same_new hD)⟩ (fun i H ⟨_, _, _, s, _⟩ => hG H s) ?_ (fun H ⟨acc, h1, h2, h3, h4⟩ => hd acc H h1 h3 h2 h4)
  rintro i x H hx ⟨acc, h1, h2, h3, h4⟩
  show wipe _ [j] = wipe σ [j] ∧ _
  refine ⟨by simp only [wipe, List.set_set], ?_⟩
  show te ((σ.set j none).set j (some x)) H _
  rw [List.set_set]
  have lt : i < xs.length := by
    rcases Nat.lt_or_ge i xs.length with q | q
    · exact q
    · rw [List.getElem?_eq_none q] at hx; cases hx
  refine hs i x acc H _ hx h3 h1 h4 fun y H4 s r => ⟨acc, s _ _ h2, by omega, acc ++ [y], by simp [h1], upd_same, ?_, ?_⟩
  · exact (Off.trans (Same.off (h3.trans s)) off_upd).same hD
  · exact hup _ acc _ _ (s _ _ h2) off_upd r
theorem for_rng1 {ta : TA} {g : TG} {tb : TS} {D : Ends} {σ : L2.St} {H : Hp} {n : Nat} (h : ∀ R : List V → Hp → Prop, R [.int n] H → ta σ H R) (hn : n ≤ 1000000000) (Pv : Nat → L2.St → Hp → Prop) (h0 : Pv 0 σ H)
    (hs : ∀ (i : Nat) σ H, i < n → Pv i σ H → g (.int i) σ H fun σ2 H2 => tb (turnE D (Pv (i + 1))) σ2 H2) (hd : ∀ σ H, Pv n σ H → D.nx σ H) : tFor (iRng1 ta) g tb D σ H := by
  have e : (intsL 0 n).length = n := by simp [intsL]
  have hw : ∀ R : It → Hp → Prop, R (Itr 0 n) H → iRng1 ta σ H R := fun R r => h _ ⟨_, rfl, by omega, by omega, by rw [Int.toNat_natCast]; exact r⟩
  refine for_plain plain_R hw Pv h0 (fun _ _ _ _ => trivial) (fun i x σ H hx p => ?_) (by rw [e]; exact hd)
  have lt : i < n := e ▸ (List.getElem?_eq_some_iff.mp hx).1
  have : x = .int i := by
    simp [intsL, lt] at hx
    exact hx.symm
  subst this
  exact hs i σ H lt p
theorem for_strL {te : TE} {g : TG} {tb : TS} {D : Ends} {σ : L2.St} {H : Hp} {z : Str} (h : ∀ Q : VK, Q (.str z) H → te σ H Q) (Pv : Nat → L2.St → Hp → Prop) (h0 : Pv 0 σ H)
    (hs : ∀ (i : Nat) x σ H, (strL z)[i]? = some x → Pv i σ H → g x σ H fun σ2 H2 => tb (turnE D (Pv (i + 1))) σ2 H2) (hd : ∀ σ H, Pv (strL z).length σ H → D.nx σ H) : tFor (iStr te) g tb D σ H :=
  for_plain plain_S (fun R r => h _ ⟨z, rfl, r⟩) Pv h0 (fun _ _ _ _ => trivial) hs hd
end
end U
namespace U
open PySem PySem.Spec PyProof.Rows L2

theorem take_snoc {α : Type} (f : α → V) {acc : List V} {bs : List α} {i : Nat} {c : α} (ha : acc = (bs.take acc.length).map f) (hl : acc.length = i) (hc : bs[i]? = some c) : acc ++ [f c] = (bs.take (acc ++ [f c]).length).map f := by
  subst hl
  rw [List.length_append, List.length_singleton, List.take_succ, List.map_append, ← ha, hc]
  rfl
/-! ### rows of prices -/
def RowB (K : PySem.W.Frag) (H : Hp) (x : V) (b : Bool) : Prop := (∃ a, Is K H x a ∧ a ≠ .lst ∧ a ≠ .tup ∧ b = false) ∨
  ∃ p xs, x = .ref p ∧ SqA K H p xs ∧ (∀ v ∈ xs, ∃ a, Is K H v a) ∧ b = (decide (xs.length = 6) && xs.all isPB)
def RowsB (K : PySem.W.Frag) (H : Hp) (x : V) (b : Bool) : Prop := (∃ a, Is K H x a ∧ a ≠ .lst ∧ a ≠ .tup ∧ b = false) ∨
  ∃ (p : Addr) (xs : List V) (bs : List Bool), x = .ref p ∧ SqA K H p xs ∧ bs.length = xs.length ∧ (∀ (i : Nat) (v : V) (c : Bool), xs[i]? = some v → bs[i]? = some c → RowB K H v c) ∧ b = (decide (1 ≤ xs.length) && (decide (xs.length ≤ 60) && bs.all id))
section
variable {K : PySem.W.Frag} {H H' : Hp} {x : V} {b : Bool}
theorem RowB.same (e : Same H H') (h : RowB K H x b) : RowB K H' x b := by
  rcases h with ⟨a, h, r⟩ | ⟨p, xs, r, h, g, q⟩
  · exact .inl ⟨a, h.same e, r⟩
  · exact .inr ⟨p, xs, r, h.same e, fun v m => by
      obtain ⟨a, z⟩ := g v m
      exact ⟨a, z.same e⟩, q⟩
theorem RowsB.same (e : Same H H') (h : RowsB K H x b) : RowsB K H' x b := by
  rcases h with ⟨a, h, r⟩ | ⟨p, xs, bs, r, h, g, z, q⟩
  · exact .inl ⟨a, h.same e, r⟩
  · exact .inr ⟨p, xs, bs, r, h.same e, g, fun i v c h1 h2 => (z i v c h1 h2).same e, q⟩
theorem SqA.kind {p : Addr} {xs : List V} (h : SqA K H p xs) : ∃ a, Is K H (.ref p) a ∧ (a.sub .lst || a.sub .tup) = true := by
  rcases h with h | h
  · exact ⟨.lst, is_sqL h, rfl⟩
  · exact ⟨.tup, is_sqT h, rfl⟩
theorem isi_seq (F : KF K) {a : Ty} {p : Addr} {Q : VK} (hp : H p = some (.tup [.ty "list", .ty "tuple"])) (h : Is K H x a) (q : Q (.bl (a.sub .lst || a.sub .tup)) H) : uIsi K [x, .ref p] H Q := by
  refine .inr ⟨_, [.type "list", .type "tuple"], a.v K, _, hp, .cons (.ty _) (.cons (.ty _) .nil), h, ?_, q⟩
  show PySem.W.kitAny K (a.v K) [Ty.v K .lst, Ty.v K .tup] = _
  unfold PySem.W.kitAny
  rw [F.kit a .lst]
  cases a.sub .lst with
  | true => rfl
  | false =>
    show PySem.W.kitAny K (a.v K) [Ty.v K .tup] = _
    unfold PySem.W.kitAny
    rw [F.kit a .tup]
    cases a.sub .tup <;> rfl
theorem uLen_seq {p : Addr} {xs : List V} {Q : VK} (h : SqA K H p xs) (q : Q (.int xs.length) H) : uLen K [.ref p] H Q := ⟨xs, h, q⟩
theorem uEq_int {i j : Int} {Q : VK} : uEq K (.int i) (.int j) H Q = Q (.bl (decide (i = j))) H := rfl
theorem uEq_str {i j : Str} {Q : VK} : uEq K (.str i) (.str j) H Q = Q (.bl (decide (i = j))) H := rfl
theorem uNe_int {i j : Int} {Q : VK} : uNe K (.int i) (.int j) H Q = Q (.bl (!decide (i = j))) H := rfl
theorem uNe_str {i j : Str} {Q : VK} : uNe K (.str i) (.str j) H Q = Q (.bl (!decide (i = j))) H := rfl
theorem uAdd_int {i j : Int} {Q : VK} : uAdd (.int i) (.int j) H Q = Q (.int (i + j)) H := rfl
theorem uSub_int {i j : Int} {Q : VK} : uSub (.int i) (.int j) H Q = Q (.int (i - j)) H := rfl
theorem uMul_int {i j : Int} {Q : VK} : uMul (.int i) (.int j) H Q = (CMul i j ∧ Q (.int (i * j)) H) := rfl
theorem uDiv_int {i j : Int} {Q : VK} : uDiv (.int i) (.int j) H Q = (CDivW i j ∧ Q (.int (i / j)) H) := rfl
theorem uMod_int {i j : Int} {Q : VK} : uMod (.int i) (.int j) H Q = (0 < j ∧ Q (.int (i % j)) H) := rfl
theorem uPow_int {i j : Int} {Q : VK} : uPow (.int i) (.int j) H Q = (CPow i j ∧ Q (.int (i ^ j.toNat)) H) := rfl
theorem uLt_int {i j : Int} {Q : VK} : uLt (.int i) (.int j) H Q = Q (.bl (decide (i < j))) H := rfl
theorem uLe_int {i j : Int} {Q : VK} : uLe (.int i) (.int j) H Q = Q (.bl (decide (i ≤ j))) H := rfl
theorem uGt_int {i j : Int} {Q : VK} : uGt (.int i) (.int j) H Q = Q (.bl (decide (j < i))) H := rfl
theorem uGe_int {i j : Int} {Q : VK} : uGe (.int i) (.int j) H Q = Q (.bl (decide (j ≤ i))) H := rfl
theorem uAdd_str {i j : Str} {Q : VK} : uAdd (.str i) (.str j) H Q = (i.length + j.length ≤ sizeLine ∧ Q (.str (i ++ j)) H) := rfl
theorem uMul_str {i : Str} {n : Int} {Q : VK} : uMul (.str i) (.int n) H Q = (0 ≤ n ∧ n ≤ 1000 ∧ i.length ≤ 10000 ∧ Q (.str (Txt.mul i n)) H) := rfl
theorem uIs_non {Q : VK} : uIs x .non H Q = Q (.bl (decide (x = .non))) H := rfl
theorem uNis_non {Q : VK} : uNis x .non H Q = Q (.bl (!decide (x = .non))) H := rfl
theorem uIs_bl {a c : Bool} {Q : VK} : uIs (.bl a) (.bl c) H Q = Q (.bl (decide (a = c))) H := rfl
theorem uNis_bl {a c : Bool} {Q : VK} : uNis (.bl a) (.bl c) H Q = Q (.bl (!decide (a = c))) H := rfl
theorem uSl_str {z : Str} {lo hi : Option Int} {Q : VK} : uSl K (.str z) lo hi H Q = (z.length ≤ sizeLine ∧ Q (.str (cutS z lo hi)) H) := rfl
theorem uLen_str {z : Str} {Q : VK} : uLen K [.str z] H Q = (z.length ≤ sizeLine ∧ Q (.int z.length) H) := rfl
theorem seq_ {a b : TS} {D : Ends} {σ : L2.St} {H : Hp} (h : a { D with nx := b D } σ H) : tSeq a b D σ H := h
theorem tVar_eq {i : Nat} {σ : L2.St} {v : V} (h : σ[i]? = some (some v)) (Q : VK) : tVar i σ H Q = Q v H := by
  unfold tVar
  simp [h]
theorem tLc_str {t : TE} {σ : L2.St} {g : TG} {tt : TT} {te : TE} {vs : List Nat} {Q : VK} {z : Str} (ht : ∀ Q, t σ H Q = Q (.str z) H) (hc : ∀ D, H D = none → LcB (Its z) g tt te vs σ H D (Q (.ref D))) : tLc (iStr t) g tt te vs σ H Q := by
  show t σ H _
  rw [ht]
  exact ⟨z, rfl, hc⟩
theorem tLc_seq {t : TE} {σ : L2.St} {g : TG} {tt : TT} {te : TE} {vs : List Nat} {Q : VK} {p : Addr} {xs : List V} (h : SqA K H p xs) (ht : ∀ Q, t σ H Q = Q (.ref p) H)
    (hc : ∀ (J : It) (G : Hp → Prop), Plain J xs G → (∀ H', Same H H' → G H') → ∀ D, H D = none → LcB J g tt te vs σ H D (Q (.ref D))) : tLc (iSeq K t) g tt te vs σ H Q := by
  rcases h with h | h
  · refine .inl ?_
    show t σ H _
    rw [ht]
    exact ⟨p, rfl, ⟨xs, h⟩, hc _ _ plain_L fun H' e => Same.seq e h⟩
  · refine .inr ?_
    show t σ H _
    rw [ht]
    exact ⟨p, rfl, ⟨xs, h⟩, hc _ _ plain_T fun H' e => Same.sqT e h⟩
end
def sp__is_price_row (K : PySem.W.Frag) : Sp := sp1 fun x H Q _ => ∃ b, RowB K H x b ∧ ∀ H', Same H H' → Q (.bl b) H'
def sp__are_rows (K : PySem.W.Frag) : Sp := sp1 fun x H Q _ => ∃ b, RowsB K H x b ∧ ∀ H', Same H H' → Q (.bl b) H'
def t__is_price_row (K : PySem.W.Frag) (E : XK) : TS := (tRet (tAndV (tCB (uIsi K) (tCons (tVar 0) (tCons (tTup (tCons (tC (.ty "list")) (tCons (tC (.ty "tuple")) tNil))) tNil))) (tAndV (tOp (uEq K) (tCB (uLen K) (tCons (tVar 0) tNil)) (tCB (uLen K) (tCons (tC (.ref (He.ga K "WAYS"))) tNil))) (tCB (rAll K) (tCons (tLc (iSeq K (tVar 0)) (gName 1) tYes (tOrV (tOp uIs (tVar 1) (tC .non)) (tFn (sp_is_price K) E0 (tCons (tVar 1) tNil))) [1]) tNil)))))
def t__are_rows (K : PySem.W.Frag) (E : XK) : TS := (tRet (tAndV (tCB (uIsi K) (tCons (tVar 0) (tCons (tTup (tCons (tC (.ty "list")) (tCons (tC (.ty "tuple")) tNil))) tNil))) (tAndV (tChain uLe uLe (tC (.int 1)) (tCB (uLen K) (tCons (tVar 0) tNil)) (tC (.int 60))) (tCB (rAll K) (tCons (tLc (iSeq K (tVar 0)) (gName 1) tYes (tFn (sp__is_price_row K) E0 (tCons (tVar 1) tNil)) [1]) tNil)))))
section
variable {K : PySem.W.Frag} (F : KF K) {vs : List V} {H : Hp} {Q : VK} {E : XK}
local macro_rules | `(tactic| walk_at "w") => `(tactic| try simp only [turnE, lcT, Snoc, tRet, tRetN, tAndV, tOrV, tNotV, tCB, tCons, tVar, tNil, tC, tOp, tSeq, tAsg, gName, gSub, tIfS, tDrop, tFn, tTup, tLst, tNext, tB, tTest, tNot, tAnd, tOr, tIf, tChain, tUn, rU, tFld, tPart, tNoPart, L2.tSl, tBM, tPar, tPar3, tTruth, tDNewK,
  L2.start, List.map_cons, List.map_nil, List.length_cons, List.length_nil, List.replicate_succ, List.replicate_zero, List.append_nil, List.nil_append, List.cons_append, List.singleton_append, Nat.sub_self, Nat.zero_add, Nat.reduceAdd, Nat.reduceSub,
  List.getElem?_cons_zero, List.getElem?_cons_succ, List.set_cons_zero, List.set_cons_succ, Option.some.injEq, exists_eq_left, exists_eq_left', V.int.injEq, V.bl.injEq, V.str.injEq, V.ref.injEq,
  uAdd_int, uAdd_str, uSub_int, uMul_int, uMul_str, uDiv_int, uMod_int, uPow_int, uLt_int, uLe_int, uGt_int, uGe_int, uIs_non, uNis_non, uIs_bl, uNis_bl, sp1, sp2, sp3, sp4, uEq_int, uEq_str, uNe_int, uNe_str, uSl_str, uLen_str, decide_eq_true_eq])
local macro_rules | `(tactic| walk_at "1") => `(tactic| try simp only [turnE, lcT, Snoc, tRet, tRetN, tAndV, tOrV, tNotV, tCB, tCons, tVar, tNil, tC, tOp, tAsg, gName, gSub, tIfS, tDrop, tFn, tTup, tLst, tNext, tB, tTest, tNot, tAnd, tOr, tIf, tChain, tUn, rU, tFld, tPart, tNoPart, L2.tSl, tBM, tPar, tPar3, tTruth, tDNewK,
  L2.start, List.map_cons, List.map_nil, List.length_cons, List.length_nil, List.replicate_succ, List.replicate_zero, List.append_nil, List.nil_append, List.cons_append, List.singleton_append, Nat.sub_self, Nat.zero_add, Nat.reduceAdd, Nat.reduceSub,
  List.getElem?_cons_zero, List.getElem?_cons_succ, List.set_cons_zero, List.set_cons_succ, Option.some.injEq, exists_eq_left, exists_eq_left', V.int.injEq, V.bl.injEq, V.str.injEq, V.ref.injEq,
  uAdd_int, uAdd_str, uSub_int, uMul_int, uMul_str, uDiv_int, uMod_int, uPow_int, uLt_int, uLe_int, uGt_int, uGe_int, uIs_non, uNis_non, uIs_bl, uNis_bl, sp1, sp2, sp3, sp4, uEq_int, uEq_str, uNe_int, uNe_str, uSl_str, uLen_str, decide_eq_true_eq])
local macro_rules | `(tactic| walk_at "s") => `(tactic| ((try dsimp only [turnE]); with_reducible refine seq_ ?_))

include F in
theorem read__is_price_row (h : sp__is_price_row K vs H Q E) : t__is_price_row K E { nx := fun _ H' => Q .non H', rt := Q } (start ["value", "price"] vs) H := by
  match vs, h with
  | [x], ⟨b, hb, q⟩ =>
    unfold t__is_price_row
    walk_at "w"
    refine ⟨by decide, fun p hp => ?_⟩
    have e1 : Same H (upd H p (.tup [.ty "list", .ty "tuple"])) := same_new hp
    have hb1 := hb.same e1
    have hp1 : upd H p (.tup [.ty "list", .ty "tuple"]) p = some (.tup [.ty "list", .ty "tuple"]) := upd_same
    generalize upd H p (.tup [.ty "list", .ty "tuple"]) = H1 at *
    rcases hb1 with ⟨a, h1, h2, h3, rfl⟩ | ⟨r, xs, rfl, h1, h2, rfl⟩
    · refine isi_seq F hp1 h1 ?_
      have : (a.sub .lst || a.sub .tup) = false := by cases a <;> first | rfl | exact absurd rfl h2 | exact absurd rfl h3
      rw [this]
      exact ⟨_, rfl, q _ e1⟩
    · obtain ⟨a, ka, ks⟩ := h1.kind
      refine isi_seq F hp1 ka ?_
      rw [ks]
      refine ⟨_, rfl, ?_⟩
      rw [if_pos rfl]
      refine uLen_seq h1 (uLen_seq (.inr (F.ways H1)) ⟨_, rfl, ?_⟩)
      by_cases e : xs.length = 6
      · rw [decide_eq_true (by simp [e]), if_pos rfl]
        refine tLc_seq (p := r) h1 (tVar_eq rfl) fun J G P hG D hD => ?_
        refine lc_grow P (fun acc _ => acc = ((xs.map isPB).take acc.length).map V.bl) hD (by rw [e]; decide) hG (fun _ _ => rfl) (fun _ _ _ _ _ _ h => h) ?_ ?_
        · rintro i y acc H2 Q' hy s hl ha k
          obtain ⟨a, z⟩ := h2 y (List.mem_of_getElem? hy)
          have k := k (.bl (isPB y)) H2 (Same.refl _) (take_snoc V.bl ha hl (by simp [hy]))
          unfold sp_is_price
          walk_at "w"
          cases y with
          | non => simpa [isPB] using k
          | _ =>
            simp only [reduceCtorEq, decide_false, Bool.false_eq_true, if_false]
            refine ⟨a, z.same s, ?_⟩
            simpa [isPB, isPr] using k
        · rintro acc H2 hl s hD2 ha
          have hm : acc = (xs.map isPB).map V.bl := by
            rw [ha, hl, List.take_of_length_le (by simp)]
          refine ⟨D, xs.map isPB, rfl, .inl (.inl (by rw [hD2, hm])), ?_⟩
          have := q H2 (e1.trans s)
          simpa [e, List.all_map, Function.comp_def] using this
      · rw [decide_eq_false (by simp; omega)]
        simpa [e] using q _ e1
include F in
theorem read__are_rows (h : sp__are_rows K vs H Q E) : t__are_rows K E { nx := fun _ H' => Q .non H', rt := Q } (start ["value", "row"] vs) H := by
  match vs, h with
  | [x], ⟨b, hb, q⟩ =>
    unfold t__are_rows
    walk_at "w"
    refine ⟨by decide, fun p hp => ?_⟩
    have e1 : Same H (upd H p (.tup [.ty "list", .ty "tuple"])) := same_new hp
    have hb1 := hb.same e1
    have hp1 : upd H p (.tup [.ty "list", .ty "tuple"]) p = some (.tup [.ty "list", .ty "tuple"]) := upd_same
    generalize upd H p (.tup [.ty "list", .ty "tuple"]) = H1 at *
    rcases hb1 with ⟨a, h1, h2, h3, rfl⟩ | ⟨r, xs, bs, rfl, h1, hbl, h2, rfl⟩
    · refine isi_seq F hp1 h1 ?_
      have : (a.sub .lst || a.sub .tup) = false := by cases a <;> first | rfl | exact absurd rfl h2 | exact absurd rfl h3
      rw [this]
      exact ⟨_, rfl, q _ e1⟩
    · obtain ⟨a, ka, ks⟩ := h1.kind
      refine isi_seq F hp1 ka ?_
      rw [ks]
      refine ⟨_, rfl, ?_⟩
      rw [if_pos rfl]
      refine uLen_seq h1 ?_
      walk_at "w"
      by_cases l1 : 1 ≤ xs.length
      · rw [if_pos (show (1 : Int) ≤ xs.length by omega)]
        by_cases l2 : xs.length ≤ 60
        · rw [if_pos (show (xs.length : Int) ≤ 60 by omega)]
          refine tLc_seq (p := r) h1 (tVar_eq rfl) fun J G P hG D hD => ?_
          refine lc_grow P (fun acc _ => acc = (bs.take acc.length).map V.bl) hD (Nat.le_trans l2 (by decide)) hG (fun _ _ => rfl) (fun _ _ _ _ _ _ h => h) ?_ ?_
          · rintro i y acc H2 Q' hy s hl ha k
            have lt : i < xs.length := (List.getElem?_eq_some_iff.mp hy).1
            have hc : bs[i]? = some bs[i] := List.getElem?_eq_getElem (by omega)
            have z := (h2 i y _ hy hc).same s
            unfold sp__is_price_row
            walk_at "w"
            refine ⟨_, z, fun H3 s3 => k _ _ s3 ?_⟩
            exact take_snoc V.bl ha hl hc
          · rintro acc H2 hl s hD2 ha
            have hm : acc = bs.map V.bl := by rw [ha, hl, List.take_of_length_le (by omega)]
            refine ⟨D, bs, rfl, .inl (.inl (by rw [hD2, hm])), ?_⟩
            have := q H2 (e1.trans s)
            simpa [l1, l2] using this
        · rw [if_neg (show ¬ (xs.length : Int) ≤ 60 by omega)]
          simpa [l2] using q _ e1
      · rw [if_neg (show ¬ (1 : Int) ≤ xs.length by omega)]
        simpa [l1] using q _ e1
end
/-! ### making a yard -/
def RowV (K : PySem.W.Frag) (H : Hp) (x : V) (rows : List (List (Option Int))) : Prop := ∃ (p : Addr) (xs : List V), x = .ref p ∧ SqA K H p xs ∧ xs.length = rows.length ∧
  ∀ (i : Nat) (v : V) (r : List (Option Int)), xs[i]? = some v → rows[i]? = some r → ∃ q, v = .ref q ∧ SqA K H q (r.map pV)
def RowsOk (rows : List (List (Option Int))) : Prop := 1 ≤ rows.length ∧ rows.length ≤ 60 ∧ ∀ r ∈ rows, r.length = 6 ∧ r.all okP = true
theorem isPB_pV (p : Option Int) : isPB (pV p) = okP p := by cases p <;> rfl
theorem is_pV {K : PySem.W.Frag} {H : Hp} (p : Option Int) : ∃ a, Is K H (pV p) a := by
  cases p with
  | none => exact ⟨_, is_non⟩
  | some i => exact ⟨_, is_int i⟩
section
variable {K : PySem.W.Frag} {H H' : Hp} {x : V} {rows : List (List (Option Int))}
theorem RowV.same (e : Same H H') (h : RowV K H x rows) : RowV K H' x rows := by
  obtain ⟨p, xs, h1, h2, h3, h4⟩ := h
  refine ⟨p, xs, h1, h2.same e, h3, fun i v r g1 g2 => ?_⟩
  obtain ⟨q, z1, z2⟩ := h4 i v r g1 g2
  exact ⟨q, z1, z2.same e⟩
theorem RowV.rowsB (h : RowV K H x rows) (o : RowsOk rows) : RowsB K H x true := by
  obtain ⟨p, xs, h1, h2, h3, h4⟩ := h
  obtain ⟨o1, o2, o3⟩ := o
  refine .inr ⟨p, xs, xs.map fun _ => true, h1, h2, by simp, fun i v c g1 g2 => ?_, by simp; omega⟩
  rw [List.getElem?_map, g1] at g2
  cases g2
  have lt : i < rows.length := h3 ▸ (List.getElem?_eq_some_iff.mp g1).1
  obtain ⟨q, rfl, z⟩ := h4 i v rows[i] g1 (List.getElem?_eq_getElem lt)
  obtain ⟨k1, k2⟩ := o3 rows[i] (List.getElem_mem lt)
  refine .inr ⟨q, _, rfl, z, fun v m => ?_, ?_⟩
  · obtain ⟨p, _, rfl⟩ := List.mem_map.mp m
    exact is_pV p
  · rw [List.length_map, k1, List.all_map]
    have : (isPB ∘ pV) = okP := funext isPB_pV
    rw [this, k2]
    rfl
theorem Off.sqT_ins {a D : Addr} {xs : List V} {C dx : Addr} {fs : List (Str × V)} (h : Off D H H') (hD : H D = some (.ins C dx fs)) (q : SqT K H a xs) : SqT K H' a xs := by
  rcases q with (q | ⟨o, q⟩) | q
  · exact .inl (.inl (h _ _ (by rintro rfl; rw [hD] at q; cases q) q))
  · exact .inl (.inr ⟨o, h _ _ (by rintro rfl; rw [hD] at q; cases q) q⟩)
  · exact .inr q
end
def sp_Yard_init (K : PySem.W.Frag) : Sp := sp2 fun s x H Q E => ∃ a dx, s = .ref a ∧ H a = some (.ins (He.ga K "Yard") dx []) ∧
  ((∃ rows, RowV K H x rows ∧ RowsOk rows ∧ ∀ H', Off a H H' → Yd K H' a rows → (∃ dx t, H' a = some (.ins (He.ga K "Yard") dx [("_rows", .ref t), ("_reckoning", .non)])) → Q .non H') ∨ (RowsB K H x false ∧ Rz K "InvalidYard" "value" x H E))
def t_Yard_init (K : PySem.W.Frag) (E : XK) : TS := (tSeq (tIfS (tNot (tB (tFn (sp__are_rows K) E (tCons (tVar 1) tNil)))) (tRse K "InvalidYard" "value" E (tCons (tVar 1) tNil)) tNext) (tSeq (sFld K (tVar 0) (tCB (uTup K) (tCons (tLc (iSeq K (tVar 1)) (gName 2) tYes (tCB (uTup K) (tCons (tVar 2) tNil)) [2]) tNil)) "_rows") (sFld K (tVar 0) (tC .non) "_reckoning")))
section
variable {K : PySem.W.Frag} (F : KF K) {vs : List V} {H : Hp} {Q : VK} {E : XK}
local macro_rules | `(tactic| walk_at "w") => `(tactic| try simp only [turnE, lcT, Snoc, tRet, tRetN, tAndV, tOrV, tNotV, tCB, tCons, tVar, tNil, tC, tOp, tSeq, tAsg, gName, gSub, tIfS, tDrop, tFn, tTup, tLst, tNext, tB, tTest, tNot, tAnd, tOr, tIf, tChain, tUn, rU, tFld, tPart, tNoPart, L2.tSl, tBM, tPar, tPar3, tTruth, tDNewK,
  L2.start, List.map_cons, List.map_nil, List.length_cons, List.length_nil, List.replicate_succ, List.replicate_zero, List.append_nil, List.nil_append, List.cons_append, List.singleton_append, Nat.sub_self, Nat.zero_add, Nat.reduceAdd, Nat.reduceSub,
  List.getElem?_cons_zero, List.getElem?_cons_succ, List.set_cons_zero, List.set_cons_succ, Option.some.injEq, exists_eq_left, exists_eq_left', V.int.injEq, V.bl.injEq, V.str.injEq, V.ref.injEq,
  uAdd_int, uAdd_str, uSub_int, uMul_int, uMul_str, uDiv_int, uMod_int, uPow_int, uLt_int, uLe_int, uGt_int, uGe_int, uIs_non, uNis_non, uIs_bl, uNis_bl, sp1, sp2, sp3, sp4, uEq_int, uEq_str, uNe_int, uNe_str, uSl_str, uLen_str, decide_eq_true_eq])
local macro_rules | `(tactic| walk_at "1") => `(tactic| try simp only [turnE, lcT, Snoc, tRet, tRetN, tAndV, tOrV, tNotV, tCB, tCons, tVar, tNil, tC, tOp, tAsg, gName, gSub, tIfS, tDrop, tFn, tTup, tLst, tNext, tB, tTest, tNot, tAnd, tOr, tIf, tChain, tUn, rU, tFld, tPart, tNoPart, L2.tSl, tBM, tPar, tPar3, tTruth, tDNewK,
  L2.start, List.map_cons, List.map_nil, List.length_cons, List.length_nil, List.replicate_succ, List.replicate_zero, List.append_nil, List.nil_append, List.cons_append, List.singleton_append, Nat.sub_self, Nat.zero_add, Nat.reduceAdd, Nat.reduceSub,
  List.getElem?_cons_zero, List.getElem?_cons_succ, List.set_cons_zero, List.set_cons_succ, Option.some.injEq, exists_eq_left, exists_eq_left', V.int.injEq, V.bl.injEq, V.str.injEq, V.ref.injEq,
  uAdd_int, uAdd_str, uSub_int, uMul_int, uMul_str, uDiv_int, uMod_int, uPow_int, uLt_int, uLe_int, uGt_int, uGe_int, uIs_non, uNis_non, uIs_bl, uNis_bl, sp1, sp2, sp3, sp4, uEq_int, uEq_str, uNe_int, uNe_str, uSl_str, uLen_str, decide_eq_true_eq])
local macro_rules | `(tactic| walk_at "s") => `(tactic| ((try dsimp only [turnE]); with_reducible refine seq_ ?_))

include F in
theorem read_Yard_init (h : sp_Yard_init K vs H Q E) : t_Yard_init K E { nx := fun _ H' => Q .non H', rt := Q } (start ["self", "rows", "row"] vs) H := by
  match vs, h with
  | [_, x], ⟨a, dx, rfl, ha, h⟩ =>
    unfold t_Yard_init sp__are_rows
    walk_at "w"
    rcases h with ⟨rows, hr, ho, q⟩ | ⟨hb, rz⟩
    · refine ⟨true, hr.rowsB ho, fun H1 s1 => ?_⟩
      simp only [Bool.not_true, Bool.false_eq_true, if_false, sFld, tCB]
      obtain ⟨p, xs, rfl, h2, h3, h4⟩ := hr.same s1
      refine tLc_seq (p := p) h2 (tVar_eq rfl) fun J G P hG D hD => ?_
      refine lc_grow P (fun acc H => ∃ as : List Addr, acc = as.map V.ref ∧ as.length ≤ rows.length ∧ ∀ (i : Nat) (a : Addr) (r : List (Option Int)), as[i]? = some a → rows[i]? = some r → SqT K H a (r.map pV)) hD
        (by rw [h3]; exact Nat.le_trans ho.2.1 (by decide)) hG (fun _ _ => ⟨[], rfl, Nat.zero_le _, fun i a r z => by simp at z⟩) ?_ ?_ ?_
      · rintro acc l H2 H3 hl o ⟨as, e1, e2, e3⟩
        exact ⟨as, e1, e2, fun i a r z1 z2 => o.sqT hl (e3 i a r z1 z2)⟩
      · rintro i y acc H2 Q' hy s hl ⟨as, e1, e2, e3⟩ k
        have lt : i < rows.length := h3 ▸ (List.getElem?_eq_some_iff.mp hy).1
        obtain ⟨b, rfl, z⟩ := h4 i y rows[i] hy (List.getElem?_eq_getElem lt)
        have z := z.same s
        walk_at "w"
        have hl2 : as.length = i := by rw [e1, List.length_map] at hl; exact hl
        have step : ∀ (c : Addr) (H3 : Hp), Same H2 H3 → SqT K H3 c (rows[i].map pV) → Q' (.ref c) H3 := fun c H3 s3 hc => by
          refine k _ _ s3 ⟨as ++ [c], by simp [e1], by simp; omega, fun j d r z1 z2 => ?_⟩
          by_cases e : j = i
          · subst e
            rw [List.getElem?_append_right (by omega), hl2] at z1
            simp at z1
            subst z1
            rw [List.getElem?_eq_getElem lt] at z2
            cases z2
            exact hc
          · have : j < as.length := by
              have := (List.getElem?_eq_some_iff.mp z1).1
              simp at this
              omega
            rw [List.getElem?_append_left this] at z1
            exact Same.sqT s3 (e3 j d r z1 z2)
        rcases z with z | z
        · exact ⟨_, .inl ⟨z, fun l hl => step l _ (same_new hl) (.inl (.inl upd_same))⟩⟩
        · exact ⟨_, .inr ⟨z, step b _ (Same.refl _) z⟩⟩
      · rintro acc H2 hl s hD2 ⟨as, e1, e2, e3⟩
        have hla : as.length = rows.length := by rw [e1, List.length_map] at hl; omega
        refine ⟨acc, .inl ⟨.inl (.inl hD2), fun t ht => ?_⟩⟩
        have st : Same H2 (upd H2 t (.tup acc)) := same_new ht
        have hat : upd H2 t (.tup acc) a = some (.ins (He.ga K "Yard") dx []) := st _ _ (s _ _ (s1 _ _ ha))
        have htt : upd H2 t (.tup acc) t = some (.tup acc) := upd_same
        have sall : Same H (upd H2 t (.tup acc)) := (s1.trans s).trans st
        have e3' : ∀ (i : Nat) (a : Addr) (r : List (Option Int)), as[i]? = some a → rows[i]? = some r → SqT K (upd H2 t (.tup acc)) a (r.map pV) := fun i a r z1 z2 => Same.sqT st (e3 i a r z1 z2)
        generalize upd H2 t (.tup acc) = H4 at *
        refine ⟨.ref a, rfl, a, _, dx, [], rfl, hat, F.cl, F.na, by simp, ?_⟩
        refine ⟨.ref a, rfl, a, _, dx, _, rfl, upd_same, F.cl, F.na2, by simp [putF], ?_⟩
        have of : Off a H4 (upd (upd H4 a (.ins (He.ga K "Yard") dx (putF "_rows" (.ref t) []))) a (.ins (He.ga K "Yard") dx (putF "_reckoning" .non (putF "_rows" (.ref t) [])))) := Off.trans off_upd off_upd
        refine q _ (Off.trans (Same.off sall) of) ⟨dx, t, as, ⟨_, upd_same⟩, of.sqT_ins hat (.inl (.inl (by rw [htt, e1]))), hla, ho.2.1, ho.1, fun i b r z1 z2 => of.sqT_ins hat (e3' i b r z1 z2), ho.2.2⟩ ⟨dx, t, upd_same⟩
    · refine ⟨false, hb, fun H1 s1 => ?_⟩
      simp only [if_true, Bool.not_false]
      exact rse_var (K := K) (c := "InvalidYard") (f := "value") (E := E) (i := 1) rfl (rz.same s1)
end
end U
namespace U
open PySem PySem.Spec PyProof.Rows L2

/-! ### arrangements as lists of digits -/
def pl (d : Nat) : Str := ⟨#[97 + d]⟩
def wd (ds : List Nat) : Str := ⟨(ds.map (97 + ·)).toArray⟩
def D3 (ds : List Nat) : Prop := ∀ d ∈ ds, d < 3
theorem pl_a : pl 0 = "a" := by decide
theorem pl_b : pl 1 = "b" := by decide
theorem pl_c : pl 2 = "c" := by decide
theorem pl_inj {a b : Nat} (h : pl a = pl b) : a = b := by
  have := congrArg Str.cps h
  simp [pl] at this
  omega
theorem strL_wd (ds : List Nat) : strL (wd ds) = ds.map fun d => V.str (pl d) := by
  simp [strL, wd, pl]
theorem wd_size (ds : List Nat) : (wd ds).cps.size = ds.length := by simp [wd]
theorem wd_length (ds : List Nat) : (wd ds).length = ds.length := wd_size ds
theorem wd_app (as bs : List Nat) : wd as ++ wd bs = wd (as ++ bs) := by
  show (⟨(wd as).cps ++ (wd bs).cps⟩ : Str) = _
  simp [wd]
theorem wd_pl (d : Nat) : wd [d] = pl d := rfl
theorem wd_inj {as bs : List Nat} (h : wd as = wd bs) : as = bs := by
  have := congrArg (fun z => z.cps.toList) h
  simp only [wd, List.toList_toArray] at this
  have h2 := congrArg (List.map (· - 97)) this
  simp only [List.map_map] at h2
  have e : ((fun x => x - 97) ∘ fun x => 97 + x) = (id : Nat → Nat) := by
    funext x
    simp
  rw [e, List.map_id, List.map_id] at h2
  exact h2
theorem isPl_pl {d : Nat} (h : d < 3) : isPl (.str (pl d)) = true := by
  match d, h with
  | 0, _ => decide
  | 1, _ => decide
  | 2, _ => decide
theorem isPl_inv {x : V} (h : isPl x = true) : ∃ d, d < 3 ∧ x = .str (pl d) := by
  cases x with
  | str z =>
    simp only [isPl, Bool.or_eq_true, decide_eq_true_eq] at h
    rcases h with (h | h) | h
    · exact ⟨0, by decide, by rw [h, pl_a]⟩
    · exact ⟨1, by decide, by rw [h, pl_b]⟩
    · exact ⟨2, by decide, by rw [h, pl_c]⟩
  | _ => cases h
/-- is a value an arrangement of n crates -/
def arrB (n : Nat) : V → Bool
  | .str z => decide (z.cps.size = n) && (strL z).all isPl
  | _ => false
theorem arrB_wd {n : Nat} {ds : List Nat} (h : ds.length = n) (h3 : D3 ds) : arrB n (.str (wd ds)) = true := by
  simp only [arrB, wd_size, h, decide_true, Bool.true_and, strL_wd, List.all_map, List.all_eq_true, Function.comp]
  exact fun d m => isPl_pl (h3 d m)
def Short (x : V) : Prop := ∀ z, x = .str z → z.length ≤ sizeLine
/-- a yard, or an InvalidYard -/
def YardOr (K : PySem.W.Frag) (H : Hp) (y : V) (E : XK) (k : List (List (Option Int)) → Prop) : Prop := ∃ a, Is K H y a ∧ (a ≠ .yard → Rz K "InvalidYard" "value" y H E) ∧ (a = .yard → ∃ p rows, y = .ref p ∧ Yd K H p rows ∧ k rows)
theorem yardOr_of {K : PySem.W.Frag} (F : KF K) {H : Hp} {p : Addr} {E : XK} {rows : List (List (Option Int))} {k : List (List (Option Int)) → Prop} (h : Yd K H p rows) (q : k rows) : YardOr K H (.ref p) E k := by
  obtain ⟨dx, t, as, ⟨rk, h1⟩, _⟩ := id h
  exact ⟨.yard, is_yard F h1, fun z => absurd rfl z, fun _ => ⟨p, rows, rfl, h, q⟩⟩
theorem YardOr.to {K : PySem.W.Frag} {H : Hp} {y : V} {E E' : XK} {k k' : List (List (Option Int)) → Prop} (h : YardOr K H y E k) (e : Rz K "InvalidYard" "value" y H E → Rz K "InvalidYard" "value" y H E') (f : ∀ p rows, y = .ref p → Yd K H p rows → k rows → k' rows) : YardOr K H y E' k' := by
  obtain ⟨a, h1, h2, h3⟩ := h
  refine ⟨a, h1, fun z => e (h2 z), fun z => ?_⟩
  obtain ⟨p, rows, r1, r2, r3⟩ := h3 z
  exact ⟨p, rows, r1, r2, f p rows r1 r2 r3⟩
theorem lenO_of {K : PySem.W.Frag} {H : Hp} {y : Addr} {rows : List (List (Option Int))} {Q : VK} (h : Yd K H y rows) (q : Q (.int rows.length) H) : rLenO (He.ga K "Yard") (sp_Yard_len K) [.ref y] H Q := by
  obtain ⟨dx, t, as, ⟨rk, h1⟩, h2, h3, h4, h5, h6⟩ := id h
  exact ⟨y, dx, _, rfl, h1, y, rows, rfl, h, rows.length, rfl, by omega, by omega, q⟩
def sp_is_arrangement (K : PySem.W.Frag) : Sp := sp2 fun y x H Q E => YardOr K H y E fun rows => ∃ b, Is K H x b ∧ Short x ∧ ∀ H', Same H H' → Q (.bl (arrB rows.length x)) H'
def sp_check_arrangement (K : PySem.W.Frag) : Sp := sp2 fun y x H Q E => YardOr K H y E fun rows => ∃ b, Is K H x b ∧ Short x ∧ (arrB rows.length x = true → ∀ H', Same H H' → Q .non H') ∧ (arrB rows.length x = false → Rz K "InvalidArrangement" "value" x H E)
def Arr (n : Nat) (x : V) (ds : List Nat) : Prop := x = .str (wd ds) ∧ ds.length = n ∧ D3 ds
def t_is_arrangement (K : PySem.W.Frag) (E : XK) : TS := (tSeq (tDrop (tFn (sp_check_yard K) E (tCons (tVar 0) tNil))) (tRet (tAndV (tCB (uIsi K) (tCons (tVar 1) (tCons (tC (.ty "str")) tNil))) (tAndV (tOp (uEq K) (tCB (uLen K) (tCons (tVar 1) tNil)) (tCB (rLenO (He.ga K "Yard") (sp_Yard_len K)) (tCons (tVar 0) tNil))) (tOp (uEq K) (tBM K "str" rStrip (tVar 1) (tCons (tC (.str "abc")) tNil)) (tC (.str "")))))))
def t_check_arrangement (K : PySem.W.Frag) (E : XK) : TS := (tIfS (tNot (tB (tFn (sp_is_arrangement K) E (tCons (tVar 0) (tCons (tVar 1) tNil))))) (tRse K "InvalidArrangement" "value" E (tCons (tVar 1) tNil)) tNext)
section
variable {K : PySem.W.Frag} (F : KF K) {vs : List V} {H : Hp} {Q : VK} {E : XK}
local macro_rules | `(tactic| walk_at "w") => `(tactic| try simp only [turnE, lcT, Snoc, tRet, tRetN, tAndV, tOrV, tNotV, tCB, tCons, tVar, tNil, tC, tOp, tSeq, tAsg, gName, gSub, tIfS, tDrop, tFn, tTup, tLst, tNext, tB, tTest, tNot, tAnd, tOr, tIf, tChain, tUn, rU, tFld, tPart, tNoPart, L2.tSl, tBM, tPar, tPar3, tTruth, tDNewK,
  L2.start, List.map_cons, List.map_nil, List.length_cons, List.length_nil, List.replicate_succ, List.replicate_zero, List.append_nil, List.nil_append, List.cons_append, List.singleton_append, Nat.sub_self, Nat.zero_add, Nat.reduceAdd, Nat.reduceSub,
  List.getElem?_cons_zero, List.getElem?_cons_succ, List.set_cons_zero, List.set_cons_succ, Option.some.injEq, exists_eq_left, exists_eq_left', V.int.injEq, V.bl.injEq, V.str.injEq, V.ref.injEq,
  uAdd_int, uAdd_str, uSub_int, uMul_int, uMul_str, uDiv_int, uMod_int, uPow_int, uLt_int, uLe_int, uGt_int, uGe_int, uIs_non, uNis_non, uIs_bl, uNis_bl, sp1, sp2, sp3, sp4, uEq_int, uEq_str, uNe_int, uNe_str, uSl_str, uLen_str, decide_eq_true_eq])
local macro_rules | `(tactic| walk_at "1") => `(tactic| try simp only [turnE, lcT, Snoc, tRet, tRetN, tAndV, tOrV, tNotV, tCB, tCons, tVar, tNil, tC, tOp, tAsg, gName, gSub, tIfS, tDrop, tFn, tTup, tLst, tNext, tB, tTest, tNot, tAnd, tOr, tIf, tChain, tUn, rU, tFld, tPart, tNoPart, L2.tSl, tBM, tPar, tPar3, tTruth, tDNewK,
  L2.start, List.map_cons, List.map_nil, List.length_cons, List.length_nil, List.replicate_succ, List.replicate_zero, List.append_nil, List.nil_append, List.cons_append, List.singleton_append, Nat.sub_self, Nat.zero_add, Nat.reduceAdd, Nat.reduceSub,
  List.getElem?_cons_zero, List.getElem?_cons_succ, List.set_cons_zero, List.set_cons_succ, Option.some.injEq, exists_eq_left, exists_eq_left', V.int.injEq, V.bl.injEq, V.str.injEq, V.ref.injEq,
  uAdd_int, uAdd_str, uSub_int, uMul_int, uMul_str, uDiv_int, uMod_int, uPow_int, uLt_int, uLe_int, uGt_int, uGe_int, uIs_non, uNis_non, uIs_bl, uNis_bl, sp1, sp2, sp3, sp4, uEq_int, uEq_str, uNe_int, uNe_str, uSl_str, uLen_str, decide_eq_true_eq])
local macro_rules | `(tactic| walk_at "s") => `(tactic| ((try dsimp only [turnE]); with_reducible refine seq_ ?_))

/-- check_yard(y), and then -/
theorem chk_yard {y : V} {H : Hp} {k : List (List (Option Int)) → Prop} {Q : VK} (h : YardOr K H y E k) (q : ∀ p rows, y = .ref p → Yd K H p rows → k rows → Q .non H) : sp_check_yard K [y] H Q E := by
  obtain ⟨a, h1, h2, h3⟩ := h
  refine ⟨a, h1, fun e => ?_, h2⟩
  obtain ⟨p, rows, z1, z2, z3⟩ := h3 e
  exact q p rows z1 z2 z3
theorem abc_one (c : Nat) : ("abc" : Str).cps.contains c = true ↔ isPl (.str ⟨#[c]⟩) = true := by
  have e : ("abc" : Str).cps = #[97, 98, 99] := by decide
  rw [e]
  constructor
  · intro h
    have h : c = 97 ∨ c = 98 ∨ c = 99 := by simpa using h
    rcases h with rfl | rfl | rfl <;> decide
  · intro h
    obtain ⟨d, hd, h2⟩ := isPl_inv h
    injection h2 with h2
    have h3 : (#[c] : Array Nat) = #[97 + d] := congrArg Str.cps h2
    have h4 : c = 97 + d := by simpa using h3
    subst h4
    have : d = 0 ∨ d = 1 ∨ d = 2 := by omega
    rcases this with rfl | rfl | rfl <;> simp
theorem strip_places (z : Str) : decide (Txt.stripChars z "abc" = "") = (strL z).all isPl := by
  rw [Bool.eq_iff_iff, decide_eq_true_iff, strip_nil, List.all_eq_true]
  unfold strL
  constructor
  · intro h v hv
    obtain ⟨c, hc, rfl⟩ := List.mem_map.mp hv
    exact (abc_one c).mp (h c hc)
  · intro h c hc
    exact (abc_one c).mpr (h _ (List.mem_map.mpr ⟨c, hc, rfl⟩))
include F in
theorem read_is_arrangement (h : sp_is_arrangement K vs H Q E) : t_is_arrangement K E { nx := fun _ H' => Q .non H', rt := Q } (start ["yard", "value"] vs) H := by
  match vs, h with
  | [y, x], h =>
    unfold t_is_arrangement
    walk_at "w"
    refine chk_yard h fun p rows ep hy ⟨b, hb, hs, q⟩ => ?_
    subst ep
    refine isi_ty (b := .str) F rfl hb ?_
    walk_at "w"
    by_cases e : b = .str
    · subst e
      obtain ⟨z, rfl⟩ := hb.str_inv
      simp only [Ty.sub, decide_true, Bool.true_or, if_true]
      refine ⟨hs z rfl, ?_⟩
      refine lenO_of hy ?_
      rw [uEq_int]
      refine ⟨_, rfl, ?_⟩
      by_cases el : z.cps.size = rows.length
      · rw [decide_eq_true (by show ((z.cps.size : Nat) : Int) = _; omega), if_pos rfl]
        refine ⟨rfl, z, "abc", rfl, rfl, hs z rfl, ?_⟩
        walk_at "w"
        rw [strip_places]
        have := q H (Same.refl H)
        simpa [arrB, el] using this
      · rw [decide_eq_false (by show ¬ ((z.cps.size : Nat) : Int) = _; omega), if_neg (by simp)]
        have := q H (Same.refl H)
        simpa [arrB, el] using this
    · rw [if_neg (by simp [Ty.sub, e])]
      have this := q H (Same.refl H)
      have e2 : arrB rows.length x = false := by cases x <;> first | rfl | exact absurd hb.of_str e
      rwa [e2] at this
include F in
theorem read_check_arrangement (h : sp_check_arrangement K vs H Q E) : t_check_arrangement K E { nx := fun _ H' => Q .non H', rt := Q } (start ["yard", "arrangement"] vs) H := by
  match vs, h with
  | [y, x], h =>
    unfold t_check_arrangement sp_is_arrangement
    walk_at "w"
    refine YardOr.to h id fun p rows ep hy ⟨b, hb, hs, q1, q2⟩ => ⟨b, hb, hs, fun H1 s => ?_⟩
    cases e : arrB rows.length x with
    | true => exact q1 e H1 s
    | false => exact rse_var (K := K) (c := "InvalidArrangement") (f := "value") (E := E) (i := 1) (D := { nx := fun _ H' => Q .non H', rt := Q }) rfl ((q2 e).same s)

theorem mul_pl (d n : Nat) : Txt.mul (pl d) (n : Int) = wd (List.replicate n d) := by
  have key : ∀ (m : Nat) (acc : Array Nat), ((List.replicate m (pl d).cps).foldl (· ++ ·) acc).toList = acc.toList ++ List.replicate m (97 + d) := by
    intro m
    induction m with
    | zero => intro acc; simp
    | succ m ih =>
      intro acc
      rw [List.replicate_succ, List.foldl_cons, ih]
      simp [pl, List.replicate_succ]
  have e : (wd (List.replicate n d)).cps.toList = List.replicate n (97 + d) := by simp [wd]
  have ext : ∀ a b : Str, a.cps.toList = b.cps.toList → a = b := fun a b h => by
    obtain ⟨a⟩ := a
    obtain ⟨b⟩ := b
    exact congrArg Str.mk (Array.toList_inj.mp h)
  apply ext
  rw [e]
  unfold Txt.mul
  match n with
  | 0 => rfl
  | 1 => rfl
  | n + 2 =>
    rw [if_neg (by omega), if_neg (by
      have h1 : (((n + 2 : Nat) : Int) == 1) = false := by simpa using (by omega : ¬ ((n : Int) + 2 = 1))
      have h2 : ((pl d).length == 0) = false := rfl
      rw [h1, h2]; decide)]
    rw [key]
    simp
    omega
end
theorem uIx_str {K : PySem.W.Frag} {z : Str} {i : Int} {c : Nat} {H : Hp} {Q : VK} (h : z.length ≤ sizeLine) (hi : atI z.cps.toList i = some c) (q : Q (.str ⟨#[c]⟩) H) : uIx K (.str z) (.int i) H Q := ⟨h, c, hi, q⟩
theorem cut_wd (ds : List Nat) (lo hi : Option Int) : cutS (wd ds) lo hi = wd ((ds.drop (HT.sIx ds.length 0 lo)).take (HT.sIx ds.length ds.length hi - HT.sIx ds.length 0 lo)) := by
  unfold cutS
  rw [wd_length]
  have e : (wd ds).cps.toList = ds.map (97 + ·) := by simp [wd]
  rw [e, ← List.map_drop, ← List.map_take]
  rfl
theorem cut_to {ds : List Nat} {k : Nat} (h : k ≤ ds.length) : cutS (wd ds) none (some (k : Int)) = wd (ds.take k) := by
  rw [cut_wd, HT.sIx_none, HT.sIx_nat, List.drop_zero]
  congr 2
  omega
theorem cut_from {ds : List Nat} {k : Nat} (h : k ≤ ds.length) : cutS (wd ds) (some (k : Int)) none = wd (ds.drop k) := by
  rw [cut_wd, HT.sIx_none, HT.sIx_nat]
  have e : min k ds.length = k := by omega
  rw [e, List.take_of_length_le (by simp)]
end U
namespace U
open PySem PySem.Spec PyProof.Rows L2

/-! ### ways, prices, moves -/
def wayI (a b : Nat) : Nat := 2 * a + (if a < b then b - 1 else b)
section
variable {K : PySem.W.Frag} (F : KF K) {vs : List V} {H : Hp} {Q : VK} {E : XK}
local macro_rules | `(tactic| walk_at "w") => `(tactic| try simp only [turnE, lcT, Snoc, tRet, tRetN, tAndV, tOrV, tNotV, tCB, tCons, tVar, tNil, tC, tOp, tSeq, tAsg, gName, gSub, tIfS, tDrop, tFn, tTup, tLst, tNext, tB, tTest, tNot, tAnd, tOr, tIf, tChain, tUn, rU, tFld, tPart, tNoPart, L2.tSl, tBM, tPar, tPar3, tTruth, tDNewK,
  L2.start, List.map_cons, List.map_nil, List.length_cons, List.length_nil, List.replicate_succ, List.replicate_zero, List.append_nil, List.nil_append, List.cons_append, List.singleton_append, Nat.sub_self, Nat.zero_add, Nat.reduceAdd, Nat.reduceSub,
  List.getElem?_cons_zero, List.getElem?_cons_succ, List.set_cons_zero, List.set_cons_succ, Option.some.injEq, exists_eq_left, exists_eq_left', V.int.injEq, V.bl.injEq, V.str.injEq, V.ref.injEq,
  uAdd_int, uAdd_str, uSub_int, uMul_int, uMul_str, uDiv_int, uMod_int, uPow_int, uLt_int, uLe_int, uGt_int, uGe_int, uIs_non, uNis_non, uIs_bl, uNis_bl, sp1, sp2, sp3, sp4, uEq_int, uEq_str, uNe_int, uNe_str, uSl_str, uLen_str, decide_eq_true_eq])
local macro_rules | `(tactic| walk_at "1") => `(tactic| try simp only [turnE, lcT, Snoc, tRet, tRetN, tAndV, tOrV, tNotV, tCB, tCons, tVar, tNil, tC, tOp, tAsg, gName, gSub, tIfS, tDrop, tFn, tTup, tLst, tNext, tB, tTest, tNot, tAnd, tOr, tIf, tChain, tUn, rU, tFld, tPart, tNoPart, L2.tSl, tBM, tPar, tPar3, tTruth, tDNewK,
  L2.start, List.map_cons, List.map_nil, List.length_cons, List.length_nil, List.replicate_succ, List.replicate_zero, List.append_nil, List.nil_append, List.cons_append, List.singleton_append, Nat.sub_self, Nat.zero_add, Nat.reduceAdd, Nat.reduceSub,
  List.getElem?_cons_zero, List.getElem?_cons_succ, List.set_cons_zero, List.set_cons_succ, Option.some.injEq, exists_eq_left, exists_eq_left', V.int.injEq, V.bl.injEq, V.str.injEq, V.ref.injEq,
  uAdd_int, uAdd_str, uSub_int, uMul_int, uMul_str, uDiv_int, uMod_int, uPow_int, uLt_int, uLe_int, uGt_int, uGe_int, uIs_non, uNis_non, uIs_bl, uNis_bl, sp1, sp2, sp3, sp4, uEq_int, uEq_str, uNe_int, uNe_str, uSl_str, uLen_str, decide_eq_true_eq])
local macro_rules | `(tactic| walk_at "s") => `(tactic| ((try dsimp only [turnE]); with_reducible refine seq_ ?_))

theorem wayI_lt {a b : Nat} (ha : a < 3) (hb : b < 3) (n : a ≠ b) : wayI a b < 6 := by
  unfold wayI
  split <;> omega
theorem at_nat {xs : List V} {k : Nat} {v : V} (h : xs[k]? = some v) : atI xs (k : Int) = some v := by
  have lt := (List.getElem?_eq_some_iff.mp h).1
  unfold atI ixN
  rw [if_pos (Int.natCast_nonneg k), if_pos (by omega)]
  show xs[((k : Nat) : Int).toNat]? = _
  rw [Int.toNat_natCast, h]
end
end U
namespace U
open PySem PySem.Spec PyProof.Rows L2

/-! ### a yard's lists, and other yards made of one -/
/-- fresh lists of prices -/
def RowL (H : Hp) (ls : List Addr) (rows : List (List (Option Int))) : Prop := ls.length = rows.length ∧ ∀ (i : Nat) (a : Addr) (r : List (Option Int)), ls[i]? = some a → rows[i]? = some r → H a = some (.lst (r.map pV))
def sp_Yard_rows (K : PySem.W.Frag) : Sp := sp1 fun y H Q _ => ∃ p rows, y = .ref p ∧ Yd K H p rows ∧ ∀ l ls H', Same H H' → H l = none → H' l = some (.lst (ls.map V.ref)) → RowL H' ls rows → ls.Nodup → l ∉ ls → (∀ a ∈ ls, H a = none) → Q (.ref l) H'
def t_Yard_rows (K : PySem.W.Frag) (E : XK) : TS := (tRet (tLc (iSeq K (tFld K (tVar 0) "_rows")) (gName 1) tYes (tCB (uLst K) (tCons (tVar 1) tNil)) [1]))
section
variable {K : PySem.W.Frag} (F : KF K) {vs : List V} {H : Hp} {Q : VK} {E : XK}
local macro_rules | `(tactic| walk_at "w") => `(tactic| try simp only [turnE, lcT, Snoc, tRet, tRetN, tAndV, tOrV, tNotV, tCB, tCons, tVar, tNil, tC, tOp, tSeq, tAsg, gName, gSub, tIfS, tDrop, tFn, tTup, tLst, tNext, tB, tTest, tNot, tAnd, tOr, tIf, tChain, tUn, rU, tFld, tPart, tNoPart, L2.tSl, tBM, tPar, tPar3, tTruth, tDNewK,
  L2.start, List.map_cons, List.map_nil, List.length_cons, List.length_nil, List.replicate_succ, List.replicate_zero, List.append_nil, List.nil_append, List.cons_append, List.singleton_append, Nat.sub_self, Nat.zero_add, Nat.reduceAdd, Nat.reduceSub,
  List.getElem?_cons_zero, List.getElem?_cons_succ, List.set_cons_zero, List.set_cons_succ, Option.some.injEq, exists_eq_left, exists_eq_left', V.int.injEq, V.bl.injEq, V.str.injEq, V.ref.injEq,
  uAdd_int, uAdd_str, uSub_int, uMul_int, uMul_str, uDiv_int, uMod_int, uPow_int, uLt_int, uLe_int, uGt_int, uGe_int, uIs_non, uNis_non, uIs_bl, uNis_bl, sp1, sp2, sp3, sp4, uEq_int, uEq_str, uNe_int, uNe_str, uSl_str, uLen_str, decide_eq_true_eq])
local macro_rules | `(tactic| walk_at "1") => `(tactic| try simp only [turnE, lcT, Snoc, tRet, tRetN, tAndV, tOrV, tNotV, tCB, tCons, tVar, tNil, tC, tOp, tAsg, gName, gSub, tIfS, tDrop, tFn, tTup, tLst, tNext, tB, tTest, tNot, tAnd, tOr, tIf, tChain, tUn, rU, tFld, tPart, tNoPart, L2.tSl, tBM, tPar, tPar3, tTruth, tDNewK,
  L2.start, List.map_cons, List.map_nil, List.length_cons, List.length_nil, List.replicate_succ, List.replicate_zero, List.append_nil, List.nil_append, List.cons_append, List.singleton_append, Nat.sub_self, Nat.zero_add, Nat.reduceAdd, Nat.reduceSub,
  List.getElem?_cons_zero, List.getElem?_cons_succ, List.set_cons_zero, List.set_cons_succ, Option.some.injEq, exists_eq_left, exists_eq_left', V.int.injEq, V.bl.injEq, V.str.injEq, V.ref.injEq,
  uAdd_int, uAdd_str, uSub_int, uMul_int, uMul_str, uDiv_int, uMod_int, uPow_int, uLt_int, uLe_int, uGt_int, uGe_int, uIs_non, uNis_non, uIs_bl, uNis_bl, sp1, sp2, sp3, sp4, uEq_int, uEq_str, uNe_int, uNe_str, uSl_str, uLen_str, decide_eq_true_eq])
local macro_rules | `(tactic| walk_at "s") => `(tactic| ((try dsimp only [turnE]); with_reducible refine seq_ ?_))

theorem tLc_inT {t : TE} {g : TG} {tt : TT} {te : TE} {ws : List Nat} {σ : L2.St} {H : Hp} (h : t σ H fun x H1 => ∃ a, x = .ref a ∧ (∃ xs, SqT K H1 a xs) ∧ ∀ D, H1 D = none → LcB (Itt K a) g tt te ws σ H1 D (Q (.ref D))) : tLc (iSeq K t) g tt te ws σ H Q := .inr h
include F in
theorem read_Yard_rows (h : sp_Yard_rows K vs H Q E) : t_Yard_rows K E { nx := fun _ H' => Q .non H', rt := Q } (start ["self", "row"] vs) H := by
  match vs, h with
  | [_], ⟨p, rows, rfl, hy, q⟩ =>
    unfold t_Yard_rows
    obtain ⟨dx, t, as, ⟨rk, y1⟩, y2, y3, y4, y5, y6, y7⟩ := id hy
    simp only [tRet]
    refine tLc_inT ?_
    walk_at "1"
    refine ⟨p, _, dx, _, .ref t, rfl, y1, F.cl, F.na, rfl, t, rfl, ⟨_, y2⟩, fun D hD => ?_⟩
    refine lc_plain (plain_T (xs := as.map V.ref)) (fun i H' => Same H H' ∧ ∃ ls, H' D = some (.lst (ls.map V.ref)) ∧ ls.length = i ∧ ls.Nodup ∧ D ∉ ls ∧ (∀ a ∈ ls, H a = none) ∧ ∀ (j : Nat) (a : Addr) (r : List (Option Int)), ls[j]? = some a → rows[j]? = some r → H' a = some (.lst (r.map pV)))
      ⟨same_new hD, [], upd_same, rfl, .nil, (fun m => nomatch m), (fun a m => nomatch m), fun j a r z => nomatch z⟩ (fun i H' z => Same.sqT z.1 y2) ?_ ?_
    · rintro i x H2 hx ⟨s2, ls, gD, hl, nd, nD, nH, at_⟩
      rw [List.getElem?_map] at hx
      obtain ⟨a, ha, rfl⟩ := Option.map_eq_some_iff.mp hx
      have hi : i < as.length := by exact (List.getElem?_eq_some_iff.mp ha).1
      have hr : rows[i]? = some rows[i] := List.getElem?_eq_getElem (by omega)
      simp only [lcT, wipe, gName, List.set_cons_zero, List.set_cons_succ]
      refine ⟨trivial, ?_⟩
      simp only [tYes, if_true]
      walk_at "1"
      refine ⟨_, .inr (Same.sqT s2 (y6 i a _ ha hr)), fun l nl => ?_⟩
      have lD : l ≠ D := by rintro rfl; rw [gD] at nl; cases nl
      have lls : l ∉ ls := fun m => by
        obtain ⟨j, lt, e⟩ := List.mem_iff_getElem.mp m
        have := at_ j l rows[j] (by rw [← e]; exact List.getElem?_eq_getElem lt) (List.getElem?_eq_getElem (by omega))
        rw [this] at nl
        cases nl
      have nHl : H l = none := by
        cases e : H l with
        | none => rfl
        | some o => rw [s2 _ _ e] at nl; cases nl
      have s3 : Same H2 (upd H2 l (.lst (rows[i].map pV))) := same_new nl
      have gl : upd H2 l (.lst (rows[i].map pV)) l = some (.lst (rows[i].map pV)) := upd_same
      generalize upd H2 l (.lst (rows[i].map pV)) = H3 at *
      refine ⟨_, s3 _ _ gD, ?_, (Off.trans (Same.off (s2.trans s3)) off_upd).same hD, ls ++ [l], by rw [upd_same]; simp, by simp [hl], ?_, ?_, ?_, ?_⟩
      · rw [List.length_map, hl]
        exact Nat.lt_of_lt_of_le (show i < 61 by omega) (by decide)
      · rw [List.nodup_append]
        refine ⟨nd, by simp, fun x hx y hy => ?_⟩
        rw [List.mem_singleton.mp hy]
        rintro rfl
        exact lls hx
      · rintro m
        rcases List.mem_append.mp m with m | m
        · exact nD m
        · exact lD (List.mem_singleton.mp m).symm
      · rintro x m
        rcases List.mem_append.mp m with m | m
        · exact nH x m
        · rw [List.mem_singleton.mp m]; exact nHl
      · rintro j x r z1 z2
        have xD : x ≠ D := by
          rintro rfl
          rcases List.mem_append.mp (List.mem_of_getElem? z1) with m | m
          · exact nD m
          · exact lD (List.mem_singleton.mp m).symm
        rw [upd_ne xD]
        by_cases e : j < ls.length
        · rw [List.getElem?_append_left e] at z1
          exact s3 _ _ (at_ j x r z1 z2)
        · have e2 : j = ls.length := by
            have := (List.getElem?_eq_some_iff.mp z1).1
            simp at this
            omega
          subst e2
          rw [List.getElem?_append_right (Nat.le_refl _), Nat.sub_self] at z1
          cases z1
          rw [hl, hr] at z2
          cases z2
          exact gl
    · rintro H2 ⟨s2, ls, gD, hl, nd, nD, nH, at_⟩
      rw [List.length_map] at hl
      exact q D ls H2 s2 hD gD ⟨by omega, at_⟩ nd nD nH
end
end U
namespace U
open PySem PySem.Spec PyProof.Rows L2

/-! ### rows of prices as data, in lists and in tuples -/
def pD : Option Int → PyData
  | none => .none
  | some i => .int i
def gridL (rows : List (List (Option Int))) : PyData := .list (rows.map fun r => .list (r.map pD))
theorem pD_eqv (a b : Option Int) : PyData.eqv (pD a) (pD b) = decide (a = b) := by
  cases a <;> cases b <;> simp [pD, PyData.eqv] <;> rfl
theorem all_eqv {α : Type} [DecidableEq α] (f : α → PyData) (hf : ∀ a b, PyData.eqv (f a) (f b) = decide (a = b)) : ∀ as bs : List α, PyData.eqvAll (as.map f) (bs.map f) = decide (as = bs)
  | [], [] => by simp [PyData.eqvAll]
  | [], _ :: _ => by simp [PyData.eqvAll]
  | _ :: _, [] => by simp [PyData.eqvAll]
  | a :: r, b :: s => by
    simp only [List.map_cons, PyData.eqvAll, hf, all_eqv f hf r s, List.cons.injEq]
    exact (Bool.decide_and ..).symm
theorem gridL_eqv (a b : List (List (Option Int))) : PyData.eqv (gridL a) (gridL b) = decide (a = b) := by
  unfold gridL
  rw [PyData.eqv]
  refine all_eqv (fun r : List (Option Int) => PyData.list (r.map pD)) (fun r s => ?_) a b
  rw [PyData.eqv]
  exact all_eqv pD pD_eqv r s
theorem line_flat (r : List (Option Int)) : PyData.canLayAll0 (r.map pD) = true ∧ PyData.depthAll (r.map pD) = 0 := by
  induction r with
  | nil => exact ⟨by simp [PyData.canLayAll0], by simp [PyData.depthAll]⟩
  | cons o t ih => cases o <;> simp [PyData.canLayAll0, PyData.depthAll, pD, PyData.canLay0, PyData.depth, ih]
theorem gridL_shaped (rows : List (List (Option Int))) : SeqAt.shaped (gridL rows) = true := by
  have all : PyData.canLayAll0 (rows.map fun r => .list (r.map pD)) = true ∧ PyData.depthAll (rows.map fun r => .list (r.map pD)) ≤ 1 := by
    induction rows with
    | nil => exact ⟨by simp [PyData.canLayAll0], by simp [PyData.depthAll]⟩
    | cons r t ih => simp [PyData.canLayAll0, PyData.canLay0, PyData.depthAll, PyData.depth, ih, line_flat r]
  unfold SeqAt.shaped gridL
  rw [PyData.canLay0, all.1, PyData.depth]
  refine decide_eq_true (by omega)
/-- a list of lists of prices -/
def GrL (K : PySem.W.Frag) (H : Hp) (p : Addr) (rows : List (List (Option Int))) : Prop := ∃ as : List Addr, SqL K H p (as.map V.ref) ∧ as.length = rows.length ∧
  ∀ (i : Nat) (a : Addr) (r : List (Option Int)), as[i]? = some a → rows[i]? = some r → SqL K H a (r.map pV)
section
variable {K : PySem.W.Frag} {H H' : Hp} {Q : VK}
theorem GrL.same {p : Addr} {rows : List (List (Option Int))} (e : Same H H') (h : GrL K H p rows) : GrL K H' p rows := by
  obtain ⟨as, h1, h2, h3⟩ := h
  exact ⟨as, Same.seq e h1, h2, fun i a r z1 z2 => Same.seq e (h3 i a r z1 z2)⟩
theorem dp_gridL {p : Addr} {rows : List (List (Option Int))} (h : GrL K H p rows) : Dp K H (.ref p) (gridL rows) := by
  obtain ⟨as, h1, h2, h3⟩ := h
  refine .lst h1 ?_
  clear h1
  induction as generalizing rows with
  | nil =>
    cases rows with
    | nil => exact .nil
    | cons r t => cases h2
  | cons a as ih =>
    cases rows with
    | nil => cases h2
    | cons r t =>
      refine .cons (.lst (h3 0 a r rfl rfl) ?_) (ih (Nat.succ.inj h2) fun j x y z1 z2 => h3 (j + 1) x y z1 z2)
      clear ih h2 h3
      induction r with
      | nil => exact .nil
      | cons o t ih =>
        refine .cons ?_ ih
        cases o with
        | none => exact .non
        | some i => exact .int i
/-- lists of lists of prices, told apart -/
theorem eq_gr {p q : Addr} {r1 r2 : List (List (Option Int))} (h1 : GrL K H p r1) (h2 : GrL K H q r2) (k : Q (.bl (decide (r1 = r2))) H) : uEq K (.ref p) (.ref q) H Q := by
  refine ⟨_, _, dp_gridL h1, dp_gridL h2, gridL_shaped _, gridL_shaped _, ?_⟩
  rw [gridL_eqv]
  exact k
end
end U
namespace U
open PySem PySem.Spec PyProof.Rows L2

/-! ### other yards made of one -/
/-- a way, by its places -/
def waysN : List (Nat × Nat) := [(0, 1), (0, 2), (1, 0), (1, 2), (2, 0), (2, 1)]
def okW (w : Nat × Nat) : Prop := w.1 < 3 ∧ w.2 < 3 ∧ w.1 ≠ w.2
section
variable {K : PySem.W.Frag} (F : KF K) {vs : List V} {H : Hp} {Q : VK} {E : XK}
local macro_rules | `(tactic| walk_at "w") => `(tactic| try simp only [turnE, lcT, Snoc, tRet, tRetN, tAndV, tOrV, tNotV, tCB, tCons, tVar, tNil, tC, tOp, tSeq, tAsg, gName, gSub, tIfS, tDrop, tFn, tTup, tLst, tNext, tB, tTest, tNot, tAnd, tOr, tIf, tChain, tUn, rU, tFld, tPart, tNoPart, L2.tSl, tBM, tPar, tPar3, tTruth, tDNewK,
  L2.start, List.map_cons, List.map_nil, List.length_cons, List.length_nil, List.replicate_succ, List.replicate_zero, List.append_nil, List.nil_append, List.cons_append, List.singleton_append, Nat.sub_self, Nat.zero_add, Nat.reduceAdd, Nat.reduceSub,
  List.getElem?_cons_zero, List.getElem?_cons_succ, List.set_cons_zero, List.set_cons_succ, Option.some.injEq, exists_eq_left, exists_eq_left', V.int.injEq, V.bl.injEq, V.str.injEq, V.ref.injEq,
  uAdd_int, uAdd_str, uSub_int, uMul_int, uMul_str, uDiv_int, uMod_int, uPow_int, uLt_int, uLe_int, uGt_int, uGe_int, uIs_non, uNis_non, uIs_bl, uNis_bl, sp1, sp2, sp3, sp4, uEq_int, uEq_str, uNe_int, uNe_str, uSl_str, uLen_str, decide_eq_true_eq])
local macro_rules | `(tactic| walk_at "1") => `(tactic| try simp only [turnE, lcT, Snoc, tRet, tRetN, tAndV, tOrV, tNotV, tCB, tCons, tVar, tNil, tC, tOp, tAsg, gName, gSub, tIfS, tDrop, tFn, tTup, tLst, tNext, tB, tTest, tNot, tAnd, tOr, tIf, tChain, tUn, rU, tFld, tPart, tNoPart, L2.tSl, tBM, tPar, tPar3, tTruth, tDNewK,
  L2.start, List.map_cons, List.map_nil, List.length_cons, List.length_nil, List.replicate_succ, List.replicate_zero, List.append_nil, List.nil_append, List.cons_append, List.singleton_append, Nat.sub_self, Nat.zero_add, Nat.reduceAdd, Nat.reduceSub,
  List.getElem?_cons_zero, List.getElem?_cons_succ, List.set_cons_zero, List.set_cons_succ, Option.some.injEq, exists_eq_left, exists_eq_left', V.int.injEq, V.bl.injEq, V.str.injEq, V.ref.injEq,
  uAdd_int, uAdd_str, uSub_int, uMul_int, uMul_str, uDiv_int, uMod_int, uPow_int, uLt_int, uLe_int, uGt_int, uGe_int, uIs_non, uNis_non, uIs_bl, uNis_bl, sp1, sp2, sp3, sp4, uEq_int, uEq_str, uNe_int, uNe_str, uSl_str, uLen_str, decide_eq_true_eq])
local macro_rules | `(tactic| walk_at "s") => `(tactic| ((try dsimp only [turnE]); with_reducible refine seq_ ?_))

theorem ways6V : ([.str "ab", .str "ac", .str "ba", .str "bc", .str "ca", .str "cb"] : List V) = waysN.map fun w => V.str (wd [w.1, w.2]) := by decide
theorem rev_wd2 (ds : List Nat) (u : Tok) : Txt.sliceBy (wd ds) none none (-1, u) = wd ds.reverse := by
  have ext : ∀ a b : Str, a.cps.toList = b.cps.toList → a = b := fun a b h => by
    obtain ⟨a⟩ := a
    obtain ⟨b⟩ := b
    exact congrArg Str.mk (Array.toList_inj.mp h)
  apply ext
  rw [step_rev_list, wd_length]
  have e : (wd ds.reverse).cps.toList = (ds.map (97 + ·)).reverse := by simp [wd]
  rw [e]
  apply List.ext_getElem
  · simp
  · intro i h1 h2
    simp at h1 h2
    have lt : ds.length - 1 - i < ds.length := by omega
    simp [wd, lt]
theorem waysN_ok : ∀ w ∈ waysN, okW w := by
  unfold okW
  decide
theorem str_at2 {K : PySem.W.Frag} {H : Hp} {Q : VK} {ds : List Nat} {k : Nat} (h : ds.length ≤ 60) (hk : k < ds.length) (q : Q (.str (pl (ds[k]?.getD 0))) H) : uIx K (.str (wd ds)) (.int (k : Nat)) H Q := by
  have e : ds[k]? = some ds[k] := List.getElem?_eq_getElem hk
  rw [e] at q
  have hlen : (wd ds).cps.toList.length = ds.length := by simp [wd]
  refine uIx_str (c := 97 + ds[k]) (Nat.le_trans (by rw [wd_length]; exact h) (by decide)) ?_ q
  unfold atI ixN
  rw [if_pos (by omega), hlen, if_pos (by omega)]
  show (wd ds).cps.toList[((k : Nat) : Int).toNat]? = _
  rw [Int.toNat_natCast]
  simp [wd, e]
end
end U
namespace U
open PySem PySem.Spec PyProof.Rows L2 TL

/-! ### texts cut at a sign -/
/-! ### the longest word of a text -/
/-! ### what is the text of a yard -/
/-! ### texts and their signs -/
/-! ### the text of a yard, read again -/
/-! ### texts shown in quotes -/
end U
namespace U
open PySem PySem.Spec PyProof.Rows L2 TL

/-! ### a classmethod called in a try's body -/
section
variable {X : Cx} {CX : CXT} {k : Nat} {C f q g : Addr} {sp : Sp} {Q : VK} {us : List Value} {vs : List V} {pins : List (Addr × Obj)} {σ : L2.St} {H : Hp} {s : Shared}
end
/-! ### int(text), text.split(sign) -/
/-! ### the text of a yard, read again -/
end U
namespace U
open PySem PySem.Spec PyProof.Rows L2

/-! ### max(ints, default=d) -/
def rMaxDf (K : PySem.W.Frag) : List V → List V → Hp → VK → Prop := fun xs zs H Q => ∃ (a : Addr) (ns : List Int) (d : V), xs = [.ref a] ∧ zs = [d] ∧ SqL K H a (ns.map V.int) ∧ (ns = [] → Q d H) ∧ ∀ m, m ∈ ns → (∀ y ∈ ns, y ≤ m) → Q (.int m) H
theorem reads_ints {h : Heap} : ∀ {ns : List Int} {us : List Value}, Vals (ns.map V.int) us → ReadsAll h us (ns.map PyData.int) [] := by
  intro ns
  induction ns with
  | nil =>
    intro us r
    cases r
    exact .nil
  | cons n t ih =>
    intro us r
    cases r with
    | cons r1 r2 =>
      obtain ⟨u, rfl⟩ := r1
      exact ReadsAll.cons (.int n u) (ih r2)
theorem fold_max : ∀ (t : List Int) (x : Int), t.foldl max x ∈ x :: t ∧ ∀ y ∈ x :: t, y ≤ t.foldl max x := by
  intro t
  induction t with
  | nil =>
    intro x
    refine ⟨List.mem_cons_self, fun y m => ?_⟩
    rw [List.mem_singleton.mp m]
    exact Int.le_refl _
  | cons k r ih =>
    intro x
    obtain ⟨h1, h2⟩ := ih (max x k)
    rw [List.foldl_cons]
    have hb := h2 (max x k) List.mem_cons_self
    refine ⟨?_, fun y m => ?_⟩
    · rcases List.mem_cons.mp h1 with e | m
      · rw [e]
        rcases Int.le_total x k with z | z
        · rw [Int.max_eq_right z]; simp
        · rw [Int.max_eq_left z]; simp
      · exact List.mem_cons_of_mem _ (List.mem_cons_of_mem _ m)
    · rcases List.mem_cons.mp m with rfl | m
      · exact Int.le_trans (Int.le_max_left _ _) hb
      · rcases List.mem_cons.mp m with rfl | m
        · exact Int.le_trans (Int.le_max_right _ _) hb
        · exact h2 y (List.mem_cons_of_mem _ m)
theorem call_maxDf {X : Cx} (hc : X.calm = true) (hu : X.A.units + 64 < cLine) : CallRK X (.builtin "max") ["default"] (rMaxDf X.K) := by
  intro pins s σ H xs zs us ws Q I rx rz h
  obtain ⟨a, ns, d, rfl, rfl, hs, q0, q1⟩ := h
  (obtain ⟨its, rv, hl, _⟩ := I.list hs)
  rw [Vals.ref1 rx]
  obtain ⟨w, rfl, rw⟩ := vals1 rz
  have dep : ∀ l : List Int, PyData.depthAll (l.map PyData.int) = 0 := fun l => by
    induction l with
    | nil => simp [PyData.depthAll]
    | cons x t ih => simp [PyData.depthAll, PyData.depth, ih]
  show wpAny (model X.prog X.w) X.A (call (.builtin "max") [.ref a] [(Str.ofString "default", w)]) _ _ s
  refine PySem.W.max_list_default (xs := ns.map PyData.int) (I.ok.hd hc) hl.isList (reads_ints rv) ⟨fun x mx y my => ?_, fun x mx => ?_⟩ (by rw [dep]; omega) (fun e h' tk k => ?_) (fun y ys i v h' tk bs e _ rd k => ?_)
  · obtain ⟨i, _, rfl⟩ := List.mem_map.mp mx
    obtain ⟨j, _, rfl⟩ := List.mem_map.mp my
    rfl
  · obtain ⟨i, _, rfl⟩ := List.mem_map.mp mx
    exact fun z => nomatch z
  · exact ⟨d, H, I.kept (t' := tk) k, rw, q0 (List.map_eq_nil_iff.mp e)⟩
  · cases ns with
    | nil => cases e
    | cons n t =>
      rw [List.map_cons] at e
      injection e with e1 e2
      subst e1 e2
      rw [PySem.W.maxD_ints] at rd
      obtain ⟨m1, m2⟩ := fold_max t n
      cases rd with
      | int _ u => exact ⟨.int _, H, I.kept (t' := tk) k, ⟨u, rfl⟩, q1 _ m1 m2⟩
/-! ### tuple[::-1] -/
section
variable {prog : Program} {w : World} {A : Around} {E : Value → Shared → Prop} {s : Shared}
theorem fm_congr {f g : Nat → Option Value} : ∀ {l : List Nat}, (∀ m ∈ l, f m = g m) → l.filterMap f = l.filterMap g
  | [], _ => rfl
  | a :: r, h => by
    have i := fm_congr (l := r) fun m hm => h m (List.mem_cons_of_mem _ hm)
    rw [List.filterMap_cons, List.filterMap_cons, h a List.mem_cons_self, i]
theorem all_pick (ys : List Value) : (List.range ys.length).filterMap (fun m => ys[m]?) = ys := by
  induction ys with
  | nil => rfl
  | cons y r ih =>
    rw [List.length_cons, List.range_succ_eq_map, List.filterMap_cons, List.filterMap_map]
    exact congrArg (y :: ·) ih
theorem back_pick (its : Array Value) : ((List.range its.size).filterMap fun (m : Nat) => its[(((its.size : Int) - 1) + (m : Int) * (-1)).toNat]?).toArray = its.toList.reverse.toArray := by
  congr 1
  have e : ∀ m ∈ List.range its.size, its[(((its.size : Int) - 1) + (m : Int) * (-1)).toNat]? = its.toList.reverse[m]? := fun m hm => by
    have lt := List.mem_range.mp hm
    rw [List.getElem?_reverse (by rw [Array.length_toList]; exact lt), Array.length_toList, Array.getElem?_toList]
    congr 1
    omega
  rw [fm_congr e]
  have l : its.size = its.toList.reverse.length := by rw [List.length_reverse, Array.length_toList]
  rw [l]
  exact all_pick _
theorem tup_back {t sl : Addr} {its : Array Value} {vl vu vs : Value} {Q : Value → Shared → Prop} (ht : IsTup s.heap t its) (hs : s.heap.IsSliceOf sl vl vu vs) (pl : IsPart vl none) (pu : IsPart vu none) (ps : IsPart vs (some (-1))) (hz : its.size ≤ sizeLine)
    (h : Q (.ref s.heap.objs.size) { s with heap := s.heap.push { cls := .type "tuple", data := .seq its.toList.reverse.toArray } }) : wpAny (model prog w) A (getItem (.ref t) (.ref sl)) Q E s := by
  obtain ⟨os, at_, cl, dt⟩ := id hs
  have tyS : s.TypeIs (.ref sl) "slice" := ⟨os, at_, cl⟩
  have okz : sizeOk (.seq its.toList.reverse.toArray) := by
    show its.toList.reverse.toArray.size ≤ sizeLine
    rw [List.size_toArray, List.length_reverse, Array.length_toList]
    exact hz
  unfold getItem
  (try with_reducible refine wpAny_holding ?_)
  (first | refine wpAny_bind (wpAny_pure ?_) | skip)
  (refine wpAny_bind (wpAny_sequenceKey ht.typeIs (by decide) ?_))
  refine wpAny_bind (wpAny_callSpecial?_slot (name := Str.ofString "__getitem__") ht.typeIs PyProof.Rows.slot_tuple_getitem (wpAny_call_entry PyProof.Rows.slot_tuple_getitem ht.typeIs entry_tuple_getitem ?_ (args_tuple_getitem _ _)))
  (show wpAny _ _ (Builtin.Tuple.tupleItemsOf (.ref t) >>= _) _ _ s)
  refine wpAny_bind (tupleItemsOf_ ht (wpAny_bind (wpAny_typeOf tyS ?_)))
  rw [if_pos (by decide)]
  refine wpAny_bind ?_
  (unfold Builtin.Slice.sliceApplied Builtin.Slice.sliceFields)
  refine wpAny_bind (wpAny_bind (wpAny_field at_ dt (x := vl) rfl (wpAny_bind (wpAny_field at_ dt (x := vu) rfl (wpAny_bind (wpAny_field at_ dt (x := vs) rfl (wpAny_pure ?_)))))))
  refine wpAny_bind (HT.slicePart_ ps ?_)
  show wpAny _ _ (if ((-1 : Int) == 0) = true then _ else _) _ _ s
  rw [if_neg (show ¬ ((-1 : Int) == 0) = true by decide)]
  refine wpAny_bind (HT.slicePart_ pl (wpAny_bind (HT.slicePart_ pu (wpAny_bind (wpAny_pure ?_)))))
  have e1 : Builtin.Slice.sliceAdjust none none (-1) (its.size : Int) = ((its.size : Int) - 1, -1) := by
    (unfold Builtin.Slice.sliceAdjust)
    rfl
  have e2 : Builtin.Slice.slicePlaces ((its.size : Int) - 1) (-1) (-1) = its.size := by
    (unfold Builtin.Slice.slicePlaces)
    rw [if_neg (by decide)]
    split
    · have : ((its.size : Int) - 1 - -1 - 1) / (- -1) = (its.size : Int) - 1 := by
        have : (- -1 : Int) = 1 := by decide
        rw [this, Int.ediv_one]
        omega
      rw [this]
      omega
    · omega
  show wpAny _ _ (match Builtin.Slice.sliceAdjust none none (-1) (its.size : Int) with | (lo, hi) => pure (lo, (-1 : Int), Builtin.Slice.slicePlaces lo hi (-1))) _ _ s
  rw [e1]
  show wpAny _ _ (pure ((its.size : Int) - 1, (-1 : Int), Builtin.Slice.slicePlaces ((its.size : Int) - 1) (-1) (-1))) _ _ s
  rw [e2]
  refine wpAny_pure ?_
  show wpAny _ _ (if (((its.size : Int) - 1 == 0 && (-1 : Int) == 1 && its.size == its.size)) = true then _ else _) _ _ s
  rw [if_neg (by rw [show ((-1 : Int) == 1) = false from by decide, Bool.and_false, Bool.false_and]; decide), back_pick]
  first
    | exact wpAny_bind (m := Builtin.Tuple.tupleExact _) (wpAny_newObj_type (wpAny_pure ⟨_, rfl, wpAny_pure h⟩) okz)
    | exact wpAny_bind (m := Builtin.Tuple.tupleExact _) (wpAny_newObj_type (wpAny_bind (wpAny_pure (wpAny_pure ⟨_, rfl, wpAny_pure h⟩))) okz)
    | exact wpAny_bind (wpAny_bind (m := Builtin.Tuple.tupleExact _) (wpAny_newObj_type (wpAny_pure (wpAny_pure ⟨_, rfl, wpAny_pure h⟩)) okz))
    | exact wpAny_bind (wpAny_bind (m := Builtin.Tuple.tupleExact _) (wpAny_newObj_type (wpAny_pure ⟨_, rfl, wpAny_pure h⟩) okz))
end
def tRevT (K : PySem.W.Frag) (te : TE) : TE := fun σ H Q => te σ H fun x H1 => ∃ a xs, x = .ref a ∧ SqT K H1 a xs ∧ ∀ p, H1 p = none → Q (.ref p) (upd H1 p (.tup xs.reverse))
theorem pe_revT {X : Cx} {e : Expr} {te : TE} {k : Nat} {p1 p2 p3 pos : Pos} (he : PE X e te) : PE X (.Subscript e (.Slice none none (some (.UnaryOp .USub (.Constant (.int 1) k p1) p2)) p3) pos) (tRevT X.K te) := by
  refine .mk ?_
  intro pins s σ H Q I h
  refine Subscript_ (thn (he.run pins s σ H _ I h) fun v s1 out => ?_)
  obtain ⟨x, H1, I1, r1, a, xs, rfl, hx, q⟩ := out
  cases r1
  have neg1 : PO X (some (.UnaryOp .USub (.Constant (.int 1) k p1) p2)) (tPart (tUn (rU fun i => .int (-i)) (tC (.int 1)))) := po_some (pe_un un_neg pe_int)
  refine wpAny_Slice (thn (po_none.run pins s1 σ H1 (fun o H2 => o = none ∧ H2 = H1) I1 ⟨rfl, rfl⟩) fun vl s2 out => ?_)
  obtain ⟨l, H2, I2, pl, rfl, rfl⟩ := out
  refine thn (po_none.run pins s2 σ H2 (fun o H3 => o = none ∧ H3 = H2) I2 ⟨rfl, rfl⟩) fun vu s3 out => ?_
  obtain ⟨u, H3, I3, pu, rfl, rfl⟩ := out
  refine thn (neg1.run pins s3 σ H3 (fun o H4 => o = some (-1) ∧ H4 = H3) I3 ⟨1, rfl, -1, rfl, rfl, rfl⟩) fun vs s4 out => ?_
  obtain ⟨o, H4, I4, ps, rfl, rfl⟩ := out
  have I5 : Inv X pins σ H4 { s4 with heap := s4.heap.push { cls := .type "slice", data := .fields #[vl, vu, vs] } } := I4.kept (t' := s4.toks) fun b ob z => Heap.get?_push_of_some _ z
  obtain ⟨its, r, ht, hz⟩ := I5.tuple hx
  (have hlen : its.toArray.size = xs.length := by rw [List.size_toArray]; exact r.length.symm)
  (show wpAny (model X.prog X.w) X.A (subscriptTail e (.Slice none none (some (.UnaryOp .USub (.Constant (.int 1) k p1) p2)) p3) (.ref a) (.ref s4.heap.objs.size)) (EP X pins σ Q) X.xe { s4 with heap := s4.heap.push { cls := .type "slice", data := .fields #[vl, vu, vs] } })
  refine tail_any (ops := [.ref a, .ref s4.heap.objs.size]) ht.typeIs PyProof.Rows.slot_tuple_getitem.lookup ?_ (by with_unfolding_all rfl)
  refine tup_back ht (Heap.IsSliceOf.new _ vl vu vs) pl pu ps (by rw [hlen]; exact hz) ?_
  refine ⟨.ref _, _, I5.laid (t' := s4.toks) (o := .tup xs.reverse) (fun b ob z => Heap.get?_push_of_some _ z) (Nat.le_refl _) ?_, rfl, q _ (I5.hok.fresh (Nat.le_refl _))⟩
  exact ⟨by rw [List.length_reverse]; exact hz, _, r.reverse, IsTup.new _ _⟩
end U
namespace U
open PySem PySem.Spec PyProof.Rows L2 TL

section
variable {K : PySem.W.Frag} (F : KF K) {vs : List V} {H : Hp} {Q : VK} {E : XK}
local macro_rules | `(tactic| walk_at "w") => `(tactic| try simp only [turnE, lcT, Snoc, tRet, tRetN, tAndV, tOrV, tNotV, tCB, tCons, tVar, tNil, tC, tOp, tSeq, tAsg, gName, gSub, tIfS, tDrop, tFn, tTup, tLst, tNext, tB, tTest, tNot, tAnd, tOr, tIf, tChain, tUn, rU, tFld, tPart, tNoPart, L2.tSl, tBM, tPar, tPar3, tTruth, tDNewK,
  L2.start, List.map_cons, List.map_nil, List.length_cons, List.length_nil, List.replicate_succ, List.replicate_zero, List.append_nil, List.nil_append, List.cons_append, List.singleton_append, Nat.sub_self, Nat.zero_add, Nat.reduceAdd, Nat.reduceSub,
  List.getElem?_cons_zero, List.getElem?_cons_succ, List.set_cons_zero, List.set_cons_succ, Option.some.injEq, exists_eq_left, exists_eq_left', V.int.injEq, V.bl.injEq, V.str.injEq, V.ref.injEq,
  uAdd_int, uAdd_str, uSub_int, uMul_int, uMul_str, uDiv_int, uMod_int, uPow_int, uLt_int, uLe_int, uGt_int, uGe_int, uIs_non, uNis_non, uIs_bl, uNis_bl, sp1, sp2, sp3, sp4, uEq_int, uEq_str, uNe_int, uNe_str, uSl_str, uLen_str, decide_eq_true_eq])
local macro_rules | `(tactic| walk_at "1") => `(tactic| try simp only [turnE, lcT, Snoc, tRet, tRetN, tAndV, tOrV, tNotV, tCB, tCons, tVar, tNil, tC, tOp, tAsg, gName, gSub, tIfS, tDrop, tFn, tTup, tLst, tNext, tB, tTest, tNot, tAnd, tOr, tIf, tChain, tUn, rU, tFld, tPart, tNoPart, L2.tSl, tBM, tPar, tPar3, tTruth, tDNewK,
  L2.start, List.map_cons, List.map_nil, List.length_cons, List.length_nil, List.replicate_succ, List.replicate_zero, List.append_nil, List.nil_append, List.cons_append, List.singleton_append, Nat.sub_self, Nat.zero_add, Nat.reduceAdd, Nat.reduceSub,
  List.getElem?_cons_zero, List.getElem?_cons_succ, List.set_cons_zero, List.set_cons_succ, Option.some.injEq, exists_eq_left, exists_eq_left', V.int.injEq, V.bl.injEq, V.str.injEq, V.ref.injEq,
  uAdd_int, uAdd_str, uSub_int, uMul_int, uMul_str, uDiv_int, uMod_int, uPow_int, uLt_int, uLe_int, uGt_int, uGe_int, uIs_non, uNis_non, uIs_bl, uNis_bl, sp1, sp2, sp3, sp4, uEq_int, uEq_str, uNe_int, uNe_str, uSl_str, uLen_str, decide_eq_true_eq])
local macro_rules | `(tactic| walk_at "s") => `(tactic| ((try dsimp only [turnE]); with_reducible refine seq_ ?_))

theorem tLc_inN {t : TE} {g : TG} {tt : TT} {te : TE} {vs : List Nat} {σ : L2.St} {H : Hp} {Q : VK} (h : t σ H fun x H1 => ∃ a, x = .ref a ∧ (∃ xs, SqL K H1 a xs) ∧ ∀ D, H1 D = none → LcB (Itl K a) g tt te vs σ H1 D (Q (.ref D))) : tLc (iSeq K t) g tt te vs σ H Q := .inl h
end
end U
namespace U
open PySem PySem.Spec PyProof.Rows L2

/-! ### zip of two of lists and tuples, in any mix but (tuple, list) -/
def iZipV (K : PySem.W.Frag) (ta : TA) : TI := fun σ H R => iZipU K ta σ H R ∨ RZ.iZipA K ta σ H R
theorem pi_zipV {X : Cx} {f1 f2 : Expr} {ta : TA} {p pos tpos : Pos} {elts : List Expr} {kk : Nat} (hg : Gl X "zip") (hm : X.mg "zip" = none) (ha : PA X [f1, f2] ta)
    (hs : starEach [f1, f2] X.env = (false, eval f1 X.env) :: starEach [f2] X.env := by rfl) (hpl : (backTo pos (starEach [f2] X.env)).any (·.1) = false := by rfl) :
    PI X (.Tuple elts kk tpos) (.Call (.Name "zip" p) [f1, f2] [] pos) (iZipV X.K ta) := by
  refine .mk ?_
  intro pins s σ H R I h
  rcases h with h | h
  · exact (pi_zipU hg hm ha hs hpl).run pins s σ H R I h
  · exact (RZ.pi_zipA hg hm ha hs hpl).run pins s σ H R I h
theorem zipped_TT {K : PySem.W.Frag} {a b : Addr} {xs ys : List V} : Zipped (RZ.ItzT K a b) xs ys fun H => SqT K H a xs ∧ SqT K H b ys where
  go := fun i H g l1 l2 => ⟨xs, ys, xs[i], ys[i], g.1, g.2, List.getElem?_eq_getElem l1, List.getElem?_eq_getElem l2⟩
  yld := fun i H v H' g ⟨T, x, y, h1, h2, h3, h4, h5⟩ => ⟨T, x, y, h1, h2, h3, h4 xs g.1, h5 ys g.2⟩
  stop := fun i H g l1 l2 e => ⟨xs, ys, g.1, g.2, by omega⟩
/-! ### xs[::-1], a list or a tuple -/
def tRevU (K : PySem.W.Frag) (te : TE) : TE := fun σ H Q => tRevL K te σ H Q ∨ tRevT K te σ H Q
theorem pe_revU {X : Cx} {e : Expr} {te : TE} {k : Nat} {p1 p2 p3 pos : Pos} (he : PE X e te) : PE X (.Subscript e (.Slice none none (some (.UnaryOp .USub (.Constant (.int 1) k p1) p2)) p3) pos) (tRevU X.K te) := by
  refine .mk ?_
  intro pins s σ H Q I h
  rcases h with h | h
  · exact (pe_revL he).run pins s σ H Q I h
  · exact (pe_revT he).run pins s σ H Q I h
/-! ### i << j -/
def uShl : R2 := fun x y H Q => match x, y with
  | .int i, .int j => CShl i j ∧ Q (.int (i * 2 ^ j.toNat)) H
  | _, _ => False
theorem op_uShl {X : Cx} : OpR X (binaryOp .LShift) uShl := by
  intro pins s σ H x y u v Q I rx ry h
  cases x <;> cases y <;> first
    | exact (show False from h).elim
    | exact op_shlW pins s σ H _ _ u v Q I rx ry ⟨_, _, rfl, rfl, h⟩
theorem cshl_of {i : Int} {j : Nat} (h : i.natAbs < 10 ^ 33) (hj : j ≤ 1000) : CShl i (j : Nat) := by
  refine ⟨by omega, ?_⟩
  have b : Builtin.Int.intBits i ≤ i.natAbs.log2 + 1 := by
    unfold Builtin.Int.intBits
    split <;> omega
  have l : i.natAbs.log2 < 128 := by
    by_cases z : i.natAbs = 0
    · rw [z]; decide
    · exact (Nat.log2_lt z).mpr (Nat.lt_of_lt_of_le h (by decide))
  have : (2 : Int) ^ 27 = 134217728 := by decide
  omega
end U
namespace U
open PySem PySem.Spec PyProof.Rows L2

/-! ### zip(text, list, list) -/
def Itz3 (K : PySem.W.Frag) (x : Str) (a b : Addr) : It :=
  ⟨fun i H => ∃ xs ys u v, SqL K H a xs ∧ (SqL K H b ys ∧ (i < x.cps.size ∧ (xs[i]? = some u ∧ ys[i]? = some v))),
    fun i H w H' => ∃ T c u v, w = .ref T ∧ (H T = none ∧ (H' = upd H T (.tup [.str ⟨#[c]⟩, u, v]) ∧ (x.cps[i]? = some c ∧ ((∀ xs, SqL K H a xs → xs[i]? = some u) ∧ ∀ ys, SqL K H b ys → ys[i]? = some v)))),
    fun i H => ∃ xs ys, SqL K H a xs ∧ (SqL K H b ys ∧ (i ≤ x.cps.size ∧ (i ≤ xs.length ∧ (i ≤ ys.length ∧ (i = x.cps.size ∨ (i = xs.length ∨ i = ys.length))))))⟩
/-- the six cells, and the two lists -/
structure Z3Cells (z TI TO i1 i2 i3 a b : Addr) : Prop where
  s : ZipSep3 z TI TO i1 i2 i3 [i1] [i2, a] [i3, b]
  a2 : a ≠ i2
  b3 : b ≠ i3
  e1 : TI ≠ TO
theorem not_in1 {x y : Addr} (h : x ≠ y) : x ∉ [y] := fun m => h (List.mem_singleton.mp m)
theorem not_in2 {x y z : Addr} (h : x ≠ y) (g : x ≠ z) : x ∉ [y, z] := fun m => (List.mem_cons.mp m).elim h fun m => g (List.mem_singleton.mp m)
theorem z3_new (n a b : Nat) (la : a < n) (lb : b < n) : Z3Cells (n + 5) (n + 3) (n + 4) n (n + 1) (n + 2) a b where
  s := {
    TIz := by show ¬ ((n + 3 : Nat) = n + 5); omega
    TOz := by show ¬ ((n + 4 : Nat) = n + 5); omega
    TITO := by show ¬ ((n + 3 : Nat) = n + 4); omega
    TIi1 := by show ¬ ((n + 3 : Nat) = n); omega
    mem1 := List.mem_cons_self
    zf1 := not_in1 (by show ¬ ((n + 5 : Nat) = n); omega)
    Tf1 := not_in1 (by show ¬ ((n + 4 : Nat) = n); omega)
    TIi2 := by show ¬ ((n + 3 : Nat) = n + 1); omega
    mem2 := List.mem_cons_self
    zf2 := not_in2 (by show ¬ ((n + 5 : Nat) = n + 1); omega) (by show ¬ ((n + 5 : Nat) = a); omega)
    Tf2 := not_in2 (by show ¬ ((n + 4 : Nat) = n + 1); omega) (by show ¬ ((n + 4 : Nat) = a); omega)
    TIi3 := by show ¬ ((n + 3 : Nat) = n + 2); omega
    mem3 := List.mem_cons_self
    zf3 := not_in2 (by show ¬ ((n + 5 : Nat) = n + 2); omega) (by show ¬ ((n + 5 : Nat) = b); omega)
    Tf3 := not_in2 (by show ¬ ((n + 4 : Nat) = n + 2); omega) (by show ¬ ((n + 4 : Nat) = b); omega)
    sep1_2 := not_in2 (by show ¬ ((n : Nat) = n + 1); omega) (by show ¬ ((n : Nat) = a); omega)
    sep1_3 := not_in2 (by show ¬ ((n : Nat) = n + 2); omega) (by show ¬ ((n : Nat) = b); omega)
    sep2_1 := not_in1 (by show ¬ ((n + 1 : Nat) = n); omega)
    sep2_3 := not_in2 (by show ¬ ((n + 1 : Nat) = n + 2); omega) (by show ¬ ((n + 1 : Nat) = b); omega)
    sep3_1 := not_in1 (by show ¬ ((n + 2 : Nat) = n); omega)
    sep3_2 := not_in2 (by show ¬ ((n + 2 : Nat) = n + 1); omega) (by show ¬ ((n + 2 : Nat) = a); omega) }
  a2 := by show ¬ (a = n + 1); omega
  b3 := by show ¬ (b = n + 2); omega
  e1 := by show ¬ (n + 3 = n + 4); omega
theorem six_in {z TI TO i1 i2 i3 q : Addr} (h : q ∈ [z, TI, TO, i1, i2, i3]) : q = z ∨ (q = TI ∨ (q = TO ∨ (q = i1 ∨ (q = i2 ∨ q = i3)))) := by simpa using h
theorem turn_zip3 {P : Program} {w : World} {K : PySem.W.Frag} {el : List Expr} {kk : Nat} {tp : Pos} {x : Str} {t : Tok} {a b z TI TO i1 i2 i3 : Addr} (C : Z3Cells z TI TO i1 i2 i3 a b) :
    Turn P w K (.Tuple el kk tp) (Itz3 K x a b) [z, TI, TO, i1, i2, i3] z (fun i h => IsZip h z TI TO .none ∧ (IsTupOf3 h TI (.ref i1) (.ref i2) (.ref i3) ∧ ((∃ c u v, IsTupOf3 h TO c u v) ∧ (h.IsStrIter i1 (strIterType x) x t i ∧ (h.IsListIter i2 a i ∧ h.IsListIter i3 b i))))) where
  mem := by simp
  obj := fun i h st c hc => by
    obtain ⟨g1, g2, ⟨_, _, _, g3⟩, ⟨o1, e1, _, d1⟩, ⟨o2, e2, _, d2⟩, ⟨o3, e3, _, d3⟩⟩ := st
    rcases six_in hc with q | q | q | q | q | q <;> rw [q]
    · exact ⟨_, g1, fun v q => nomatch q⟩
    · exact ⟨_, g2, fun v q => nomatch q⟩
    · exact ⟨_, g3, fun v q => nomatch q⟩
    · refine ⟨o1, e1, fun v q => ?_⟩
      rw [d1] at q
      cases q
    · refine ⟨o2, e2, fun v q => ?_⟩
      rw [d2] at q
      cases q
    · refine ⟨o3, e3, fun v q => ?_⟩
      rw [d3] at q
      cases q
  keep := fun i h h' st k => by
    obtain ⟨g1, g2, ⟨c, u, v, g3⟩, ⟨o1, e1, r1⟩, g5, g6⟩ := st
    exact ⟨k _ (by simp) _ g1, k _ (by simp) _ g2, ⟨c, u, v, k _ (by simp) _ g3⟩, ⟨o1, k _ (by simp) _ e1, r1⟩, g5.at fun o y => k _ (by simp) o y, g6.at fun o y => k _ (by simp) o y⟩
  item := by
    intro X hP hw hK hc
    intro i pins s σ H E I hf st hg
    subst hP hw hK
    obtain ⟨g1, g2, ⟨_, _, _, g3⟩, g4, g5, g6⟩ := st
    obtain ⟨xs, ys, u0, v0, qx, qy, hi, hx, hy⟩ := hg
    obtain ⟨us, r1, p1, _⟩ := I.list qx
    obtain ⟨vs, r2, p2, _⟩ := I.list qy
    obtain ⟨u, hu, ru⟩ := r1.get hx
    obtain ⟨v, hv, rv⟩ := r2.get hy
    have zl : z < s.heap.objs.size := Heap.lt_size g1
    have D1 := Draws.text (prog := X.prog) (w := X.w) (A := X.A.in1) (I.ok.hd hc) i1 x t
    have D2 := Draws.list (prog := X.prog) (w := X.w) (A := X.A.in1) (I.ok.hd hc) i2 a C.a2 us.toArray
    have D3 := Draws.list (prog := X.prog) (w := X.w) (A := X.A.in1) (I.ok.hd hc) i3 b C.b3 vs.toArray
    have lu : i < us.toArray.size := by simpa using (List.getElem?_eq_some_iff.mp hu).1
    have lv : i < vs.toArray.size := by simpa using (List.getElem?_eq_some_iff.mp hv).1
    refine wpAny_pyNext_zipD3_item C.s D1 D2 D3 g1 g2 g3 g4 ⟨g5, p1.isList⟩ ⟨g6, p2.isList⟩ hi lu lv fun y1 y2 y3 h1 tk ec ex ey z1 t1 s1 s2 s3 hT hsz hk => ?_
    obtain ⟨c, tc, hcp, rfl⟩ := ec
    obtain rfl : y2 = u := by
      have ex : us.toArray[i]? = some y2 := ex
      simp [hu] at ex
      exact ex.symm
    obtain rfl : y3 = v := by
      have ey : vs.toArray[i]? = some y3 := ey
      simp [hv] at ey
      exact ey.symm
    refine ⟨_, rfl, wpAny_letOwnedTupleGo_zip (s := { s with heap := h1, toks := tk }) z1 fun h2 z2 sb => ?_⟩
    have T2 : h2.get? s.heap.objs.size = some { cls := .type "tuple", data := .seq #[.str ⟨#[c]⟩ tc, y2, y3] } := (sb.2 _ (Nat.ne_of_gt zl)).trans hT
    have rc : RelV (.str ⟨#[c]⟩) (Value.str ⟨#[c]⟩ tc) := ⟨tc, rfl⟩
    have new : ObjOk X.prog X.w (upd H s.heap.objs.size (.tup [.str ⟨#[c]⟩, u0, v0])) h2 s.heap.objs.size (.tup [.str ⟨#[c]⟩, u0, v0]) := ⟨by show 3 ≤ sizeLine; decide, [.str ⟨#[c]⟩ tc, y2, y3], .cons rc (.cons ru (.cons rv .nil)), ⟨_, T2, rfl, _, rfl⟩⟩
    have k2 : ∀ d o, d ≠ z → d ≠ TO → d ≠ i1 → d ≠ i2 → d ≠ i3 → s.heap.get? d = some o → h2.get? d = some o := fun d o c1 c2 c3 c4 c5 e => (sb.2 d c1).trans (hk d o c1 c2 c3 c4 c5 e)
    have I1 : Inv X pins σ (upd H s.heap.objs.size (.tup [.str ⟨#[c]⟩, u0, v0])) { s with heap := h2, toks := tk } :=
      I.turnedNew (ch := [z, TI, TO, i1, i2, i3]) (fun d o hb => k2 d o (fun e => hb (by simp [e])) (fun e => hb (by simp [e])) (fun e => hb (by simp [e])) (fun e => hb (by simp [e])) fun e => hb (by simp [e])) hf (Nat.le_refl _) new
    refine ⟨.ref s.heap.objs.size, _, I1, rfl, ⟨_, c, u0, v0, rfl, I.hok.fresh (Nat.le_refl _), rfl, hcp, fun l hl => ?_, fun l hl => ?_⟩, ⟨z2, k2 _ _ C.s.TIz C.e1 C.s.TIi1 C.s.TIi2 C.s.TIi3 g2, ⟨_, _, _, (sb.2 _ C.s.TOz).trans t1⟩, ?_, ?_, ?_⟩, fun d hcm => ?_⟩
    · rw [I.list_inj hl qx]
      exact hx
    · rw [I.list_inj hl qy]
      exact hy
    · obtain ⟨o, ho, r⟩ := s1
      exact ⟨o, (sb.2 _ C.s.zi1.symm).trans ho, r⟩
    · exact s2.1.at fun o q => (sb.2 _ C.s.zi2.symm).trans q
    · exact s3.1.at fun o q => (sb.2 _ C.s.zi3.symm).trans q
    · have below : d < s.heap.objs.size := by
        rcases six_in hcm with q | q | q | q | q | q
        · exact q ▸ zl
        · exact q ▸ Heap.lt_size g2
        · exact q ▸ Heap.lt_size g3
        · obtain ⟨_, e, _⟩ := g4
          exact q ▸ Heap.lt_size e
        · obtain ⟨_, e, _⟩ := g5
          exact q ▸ Heap.lt_size e
        · obtain ⟨_, e, _⟩ := g6
          exact q ▸ Heap.lt_size e
      rw [upd_ne (Nat.ne_of_lt below)]
      exact (hf d hcm).1
  done := by
    intro X hP hw hK hc
    intro i pins s σ H E I hf st hg
    subst hP hw hK
    obtain ⟨g1, g2, ⟨_, _, _, g3⟩, g4, g5, g6⟩ := st
    obtain ⟨xs, ys, qx, qy, l0, l1, l2, l3⟩ := hg
    obtain ⟨us, r1, p1, _⟩ := I.list qx
    obtain ⟨vs, r2, p2, _⟩ := I.list qy
    have e1 := r1.length
    have e2 := r2.length
    have D1 := Draws.text (prog := X.prog) (w := X.w) (A := X.A.in1) (I.ok.hd hc) i1 x t
    have D2 := Draws.list (prog := X.prog) (w := X.w) (A := X.A.in1) (I.ok.hd hc) i2 a C.a2 us.toArray
    have D3 := Draws.list (prog := X.prog) (w := X.w) (A := X.A.in1) (I.ok.hd hc) i3 b C.b3 vs.toArray
    refine wpAny_pyNext_zipD3_end C.s D1 D2 D3 g1 g2 g3 g4 ⟨g5, p1.isList⟩ ⟨g6, p2.isList⟩ l0 (by simp; omega) (by simp; omega) (by simp; omega) fun h1 tk hk => ⟨rfl, I.turnedL (ch := [z, TI, TO, i1, i2, i3]) (fun d o hb => hk d o (fun e => hb (by simp [e])) (fun e => hb (by simp [e])) (fun e => hb (by simp [e])) (fun e => hb (by simp [e])) fun e => hb (by simp [e])) hf⟩
  self := fun _ _ _ _ _ st h => wpAny_pyIter_zip st.1 h
def iZip3 (K : PySem.W.Frag) (ta : TA) : TI := fun σ H R => ta σ H fun vs H1 => ∃ x a b xs ys, vs = [.str x, .ref a, .ref b] ∧ (SqL K H1 a xs ∧ (SqL K H1 b ys ∧ R (Itz3 K x a b) H1))
theorem pi_zip3 {X : Cx} {f1 f2 f3 : Expr} {ta : TA} {p pos tpos : Pos} {elts : List Expr} {kk : Nat} (hg : Gl X "zip") (hm : X.mg "zip" = none) (ha : PA X [f1, f2, f3] ta)
    (hs : starEach [f1, f2, f3] X.env = (false, eval f1 X.env) :: starEach [f2, f3] X.env := by rfl) (hpl : (backTo pos (starEach [f2, f3] X.env)).any (·.1) = false := by rfl) :
    PI X (.Tuple elts kk tpos) (.Call (.Name "zip" p) [f1, f2, f3] [] pos) (iZip3 X.K ta) := by
  refine .mk ?_
  intro pins s σ H R I h
  refine Call_ (ld_blt I hg hm boot_zip (PyProof.Rows.callWith_type1 (thn (ha.run pos pins s σ H _ I h) fun us s1 q0 => ?_) hs hpl))
  obtain ⟨vs, H1, I1, r1, x, a, b, xs, ys, ex, qx, qy, q⟩ := q0
  subst ex
  obtain ⟨t, rfl⟩ : ∃ t, us = [.str x t, .ref a, .ref b] := by
    cases r1 with
    | cons r r2 =>
      cases r2 with
      | cons r' r3 =>
        cases r3 with
        | cons r'' r4 =>
          cases r4
          obtain ⟨t, rfl⟩ := r
          cases r'
          cases r''
          exact ⟨t, rfl⟩
  obtain ⟨xv, rv, p1, _⟩ := I1.list qx
  obtain ⟨yv, rw', p2, _⟩ := I1.list qy
  refine zip_begins3 (begins_text x t) (begins_list a xv.toArray) (begins_list b yv.toArray) trivial p1.isList p2.isList fun h1 hz hTI hTO g1 g2 g3 hsz hk => wpAny_pyIter_zip hz ?_
  have I2 : Inv X pins σ H1 { s1 with heap := h1 } := I1.kept (t' := s1.toks) hk
  have C : Z3Cells (s1.heap.objs.size + 5) (s1.heap.objs.size + 3) (s1.heap.objs.size + 4) s1.heap.objs.size (s1.heap.objs.size + 1) (s1.heap.objs.size + 2) a b := z3_new s1.heap.objs.size a b p1.lt p2.lt
  refine ⟨s1.heap.objs.size + 5, [s1.heap.objs.size + 5, s1.heap.objs.size + 3, s1.heap.objs.size + 4, s1.heap.objs.size, s1.heap.objs.size + 1, s1.heap.objs.size + 2], _, _, H1, rfl, I2, turn_zip3 (x := x) (t := t) C, ⟨hz, hTI, ⟨_, _, _, hTO⟩, ⟨_, g1, rfl, rfl⟩, ⟨_, g2, rfl, rfl⟩, ⟨_, g3, rfl, rfl⟩⟩, fun c hcm => ?_, q⟩
  have above : s1.heap.objs.size ≤ c := by
    rcases six_in hcm with e | e | e | e | e | e <;> rw [e]
    · exact Nat.le_add_right _ 5
    · exact Nat.le_add_right _ 3
    · exact Nat.le_add_right _ 4
    · exact Nat.le_refl _
    · exact Nat.le_add_right _ 1
    · exact Nat.le_add_right _ 2
  exact I1.fpOk above (I1.hok.fresh above)
/-! ### a loop over such threes -/
theorem for_zip3 {K : PySem.W.Frag} {x : Str} {a b : Addr} {xs ys : List V} {wi : TI} {g : TG} {tb : TS} {D : Ends} {σ : L2.St} {H : Hp} (hw : ∀ R : It → Hp → Prop, R (Itz3 K x a b) H → wi σ H R) (lx : x.cps.size ≤ xs.length) (ly : x.cps.size ≤ ys.length) (Pv : Nat → L2.St → Hp → Prop) (h0 : Pv 0 σ H) (hG : ∀ i τ H', Pv i τ H' → SqL K H' a xs ∧ SqL K H' b ys)
    (hs : ∀ i c u v τ H' T, x.cps[i]? = some c → xs[i]? = some u → ys[i]? = some v → Pv i τ H' → H' T = none → g (.ref T) τ (upd H' T (.tup [.str ⟨#[c]⟩, u, v])) fun ρ H2 => tb (turnE D (Pv (i + 1))) ρ H2) (hd : ∀ τ H', Pv x.cps.size τ H' → D.nx τ H') : tFor wi g tb D σ H := by
  refine hw _ ?_
  refine ⟨fun i m τ H' => m = x.cps.size - i ∧ (i ≤ x.cps.size ∧ Pv i τ H'), ⟨_, rfl, Nat.zero_le _, h0⟩, ?_⟩
  rintro i m τ H' ⟨rfl, hi, p⟩
  obtain ⟨q1, q2⟩ := hG i τ H' p
  by_cases lt : i < x.cps.size
  · refine .inr ⟨⟨xs, ys, xs[i], ys[i], q1, q2, lt, List.getElem?_eq_getElem (by omega), List.getElem?_eq_getElem (by omega)⟩, Pv (i + 1), fun σ' H2 p' => ⟨x.cps.size - (i + 1), by omega, rfl, lt, p'⟩, fun v H2 yd => ?_⟩
    obtain ⟨T, c, u, w, rfl, nT, rfl, hc, e1, e2⟩ := yd
    exact hs i c u w τ H' T hc (e1 xs q1) (e2 ys q2) p nT
  · have e : i = x.cps.size := by omega
    subst e
    exact .inl ⟨⟨xs, ys, q1, q2, Nat.le_refl _, by omega, ly, .inl rfl⟩, hd τ H' p⟩
end U
namespace U
open PySem PySem.Spec PyProof.Rows L2

/-! ### != of two lists whose items are all alike, within one model -/
section
open PySem.SeqAt AutoSeq1 MeetsSeq MeetsSeq2 MeetsSeq3 SeqRoads2
variable {prog : Program} {w : World} -- both
end
/-- None or an int -/
def flatPI : V → Bool
  | .non => true
  | .int _ => true
  | _ => false
/-! ### min of pairs of a number and a text -/
def rMinP (K : PySem.W.Frag) : List V → Hp → VK → Prop := fun xs H Q => ∃ (l : Addr) (ts : List Addr) (ps : List (Int × Str)), xs = [.ref l] ∧ SqL K H l (ts.map V.ref) ∧ ts.length = ps.length ∧ (∀ (i : Nat) (t : Addr) (p : Int × Str), ts[i]? = some t → ps[i]? = some p → SqT K H t [.int p.1, .str p.2]) ∧ ps ≠ [] ∧
  ∀ (i : Nat) (t : Addr) (p : Int × Str), ts[i]? = some t → ps[i]? = some p → (∀ q ∈ ps, p.1 ≤ q.1) → Q (.ref t) H
theorem minP_le : ∀ (xs : List (Int × Str)) (x : Int × Str), (∀ q ∈ x :: xs, (PySem.W.minOf x xs).1 ≤ q.1)
  | [], x => fun q m => by rw [List.mem_singleton.mp m]; exact Int.le_refl _
  | y :: xs, x => by
    intro q m
    unfold PySem.W.minOf
    rw [List.foldl_cons]
    have lt : (if PySem.W.DatumOrd.lt y x = true then y else x).1 ≤ x.1 ∧ (if PySem.W.DatumOrd.lt y x = true then y else x).1 ≤ y.1 := by
      have e : PySem.W.DatumOrd.lt y x = (if y.1 = x.1 then PySem.W.DatumOrd.lt y.2 x.2 else decide (y.1 < x.1)) := rfl
      by_cases e1 : y.1 = x.1
      · split <;> omega
      · rw [e, if_neg e1]
        by_cases l : y.1 < x.1
        · rw [if_pos (decide_eq_true l)]; omega
        · rw [if_neg (by simpa using l)]; omega
    have ih := minP_le xs (if PySem.W.DatumOrd.lt y x = true then y else x)
    unfold PySem.W.minOf at ih
    have h0 := ih _ List.mem_cons_self
    rcases List.mem_cons.mp m with rfl | m
    · exact Int.le_trans h0 lt.1
    · rcases List.mem_cons.mp m with rfl | m
      · exact Int.le_trans h0 lt.2
      · exact ih q (List.mem_cons_of_mem _ m)
theorem holds_pairs {X : Cx} {pins : List (Addr × Obj)} {σ : L2.St} {H : Hp} {s : Shared} (I : Inv X pins σ H s) : ∀ {ts : List Addr} {ps : List (Int × Str)} {us : List Value}, Vals (ts.map V.ref) us → ts.length = ps.length → (∀ (i : Nat) (t : Addr) (p : Int × Str), ts[i]? = some t → ps[i]? = some p → SqT X.K H t [.int p.1, .str p.2]) → PySem.W.HoldAll s.heap us ps := by
  intro ts
  induction ts with
  | nil =>
    intro ps us r l h
    cases r
    cases ps with
    | nil => exact .nil
    | cons p ps => cases l
  | cons t ts ih =>
    intro ps us r l h
    cases ps with
    | nil => cases l
    | cons p ps =>
      cases r with
      | cons r1 r2 =>
        cases r1
        refine .cons ?_ (ih r2 (Nat.succ.inj l) fun i t p e1 e2 => h (i + 1) t p e1 e2)
        obtain ⟨as, rd⟩ := Dp.reads I (.tuple [.int p.1, .str p.2]) (.ref t) (.ref t) (.tup (h 0 t p rfl rfl) (.cons (.int _) (.cons (.str _) .nil))) rfl
        exact ⟨as, rd⟩
theorem reads_pair {h : Heap} {v : Value} {a c : Int} {b d : Str} {as bs : List Addr} (r1 : Reads h v (.tuple [.int a, .str b]) as) (r2 : Reads h v (.tuple [.int c, .str d]) bs) : a = c ∧ b = d := by
  cases r1 with
  | tuple h1 h2 h3 r1 =>
    cases r2 with
    | tuple g1 g2 g3 r2 =>
      rw [h1] at g1
      cases g1
      rw [h3] at g3
      cases g3
      generalize (_ : Array Value).toList = us at r1 r2
      cases r1 with
      | cons x1 r1 =>
        cases r1 with
        | cons y1 r1 =>
          cases r2 with
          | cons x2 r2 =>
            cases r2 with
            | cons y2 r2 =>
              cases x1
              cases y1
              cases x2
              cases y2
              exact ⟨rfl, rfl⟩
theorem call_minP {X : Cx} (hc : X.calm = true) (hu : X.A.units + 64 < cLine) : CallR X (.builtin "min") (rMinP X.K) := by
  intro ps s σ H xs us Q I r h
  obtain ⟨l, ts, prs, rfl, hl, hlen, each, ne, q⟩ := h
  obtain ⟨its, rv, ll, _⟩ := I.list hl
  rw [Vals.ref1 r]
  cases prs with
  | nil => exact absurd rfl ne
  | cons x xs =>
    have hold := holds_pairs I rv hlen each
    refine PySem.W.min_list_datum (α := Int × Str) (x := x) (xs := xs) (I.ok.hd hc) ll.isList (by simpa using hold) (by show X.A.units + 1 + (max 0 0 + 1) < cLine; omega) fun i v h' tk e hv k => ?_
    (rw [List.getElem?_toArray] at e)
    obtain ⟨p, ep, hp⟩ := hold.at e
    have lt : i < ts.length := by rw [hlen]; exact (List.getElem?_eq_some_iff.mp ep).1
    have et : ts[i]? = some ts[i] := List.getElem?_eq_getElem lt
    have ev : v = .ref ts[i] := by
      obtain ⟨u, eu, ru⟩ := rv.get (i := i) (x := .ref ts[i]) (by rw [List.getElem?_map, et]; rfl)
      rw [e] at eu
      cases eu
      exact ru
    subst ev
    have same : p = PySem.W.minOf x xs := by
      obtain ⟨as, h2⟩ := hp.keeps k
      obtain ⟨bs, h3⟩ := hv
      obtain ⟨e1, e2⟩ := reads_pair h2 h3
      exact Prod.ext e1 e2
    exact ⟨.ref ts[i], H, I.kept (t' := tk) k, rfl, q i _ p et ep (by rw [same]; exact minP_le xs x)⟩
end U
namespace U
open PySem PySem.Spec PySem.Calls PyProof.Rows L2

/-! ### f(k = v, ..): all arguments by their names -/
def tFnK (j : Nat) (sp : Sp) (gV : List V → List V → List V) (E : XK) (tk : TA) : TE := fun σ H Q => tk σ H fun zs H1 => zs.length = j ∧ sp (gV [] zs) H1 Q E
section
variable {X : Cx} {CX : CXT} {k : Nat} {x : Str} {fd : FuncData} {f : Addr} {ps ks : List Str} {sp : Sp} {E : XK} {p pos : Pos} {kws : List Keyword} {tk : TA} {g : List Value → List Value → List Value} {gV : List V → List V → List V}
theorem pe_fnK (F : FnOk X.prog X.w X.K X.mg X.base CX k f fd ps sp) (hr : Room k X.A) (hg : Gl X x) (hm : X.mg x = some (.ref f)) (kp : PySem.W.keepIn X.K (.ref f) = true) (hb : KBn X.K fd ps 0 ks g gV) (hx : Passes CX X E) (hkw : PK X kws tk)
    (hall : (backToKw pos (keywordEach kws X.env)).all (·.1.isSome) = true := by (rfl)) (hks : (backToKw pos (keywordEach kws X.env)).filterMap (·.1) = ks := by rfl) (hdb : (x == ("__debug__" : Str)) = false := by decide)
    (hpl : ((backTo pos (starEach [] X.env)).any (·.1) || (backToKw pos (keywordEach kws X.env)).any (·.1.isNone)) = false := by rfl) : PE X (.Call (.Name x p) [] kws pos) (tFnK ks.length sp gV E tk) := by
  refine .mk ?_
  intro pins s σ H Q I h
  (refine wpAny_Call_Name_kw (ld_glob I hg hm ?_ hdb))
  refine PySem.W.callWith_KW0 (first := []) (h₀ := X.base) I.ok.mod.kin kp hall (thn (hkw.run pos pins s σ H _ I h) fun ws s2 out => ?_) hpl
  obtain ⟨zs, H2, I2, rz, l2, q2⟩ := out
  refine ⟨I2.kIn, ?_⟩
  rw [hks]
  exact run_fnN (us := []) (vs := []) F hr hb hx I2 .nil rz rfl l2 q2
end
/-! ### len of a dict -/
def rLenD : List V → Hp → VK → Prop := fun xs H Q => ∃ (a : Addr) (kvs : List (Key × V)), xs = [V.ref a] ∧ H a = some (.dK kvs) ∧ Q (.int kvs.length) H
theorem call_lenD' {X : Cx} : CallR X (.builtin "len") rLenD := call_lenD
def rDictP (K : PySem.W.Frag) : List V → Hp → VK → Prop := fun xs H Q => ∃ (a : Addr) (ps : List Addr) (kvs : List (Key × V)), xs = [.ref a] ∧ SqL K H a (ps.map V.ref) ∧ Paired (fun p kv => SqT K H p [kV kv.1, kv.2]) ps kvs ∧ ∀ p, H p = none → Q (.ref p) (upd H p (.dK (mergeK [] kvs)))
theorem call_dictP' {X : Cx} (hc : X.calm = true) : CallR X (.type "dict") (rDictP X.K) := call_dictP hc
end U
namespace U
open PySem PySem.Spec PyProof.Rows L2

/-! ### levels: six numbers, by two places -/
def six {α : Type} (f : Nat → Nat → α) : List α := waysN.map fun w => f w.1 w.2
/-- the two lines of a crate -/
def lineS (p D : Nat → Nat → Int) (i j : Nat) : Int := D i (3 - i - j) + p i j + D (3 - i - j) j
def lineT2 (p D : Nat → Nat → Int) (i j : Nat) : Int := D i j + p i (3 - i - j) + D j i + p (3 - i - j) j + D i j
def stepN (p D : Nat → Nat → Int) (i j : Nat) : Int := min (lineS p D i j) (lineT2 p D i j)
def levelN : List (Nat → Nat → Int) → Nat → Nat → Int
  | [], _, _ => 0
  | p :: r, i, j => stepN p (levelN r) i j
/-! ### the same with None -/
def osum : List (Option Int) → Option Int
  | [] => some 0
  | none :: _ => none
  | some a :: r => (osum r).map (a + ·)
def omin : Option Int → Option Int → Option Int
  | none, b => b
  | a, none => a
  | some a, some b => some (min a b)
def oline1 (p D : Nat → Nat → Option Int) (i j : Nat) : Option Int := osum [D i (3 - i - j), p i j, D (3 - i - j) j]
def oline2 (p D : Nat → Nat → Option Int) (i j : Nat) : Option Int := osum [D i j, p i (3 - i - j), D j i, p (3 - i - j) j, D i j]
def stepO (p D : Nat → Nat → Option Int) (i j : Nat) : Option Int := omin (oline1 p D i j) (oline2 p D i j)
/-- the level of some crates, the last one first -/
def levelO : List (Nat → Nat → Option Int) → Nat → Nat → Option Int
  | [], _, _ => some 0
  | p :: r, i, j => stepO p (levelO r) i j
/-- a number stands for a cost -/
def Stands (B M : Int) (c : Option Int) (n : Int) : Prop := match c with
  | some v => n = v ∧ 0 ≤ v ∧ v ≤ M
  | none => B ≤ n
theorem Stands.nonneg {B M : Int} {c : Option Int} {n : Int} (h : Stands B M c n) (hB : 0 ≤ B) : 0 ≤ n := by
  cases c with
  | none => exact Int.le_trans hB h
  | some v => obtain ⟨h1, h2, _⟩ := h; omega
theorem Stands.mono {B M M' : Int} {c : Option Int} {n : Int} (h : Stands B M c n) (hM : M ≤ M') : Stands B M' c n := by
  cases c with
  | none => exact h
  | some v => obtain ⟨h1, h2, h3⟩ := h; exact ⟨h1, h2, by omega⟩
theorem Stands.told {B M : Int} {c : Option Int} {n : Int} (h : Stands B M c n) (hM : M < B) : (if n < B then some n else none) = c := by
  cases c with
  | none => have h : B ≤ n := h; rw [if_neg (by omega)]
  | some v => obtain ⟨h1, h2, h3⟩ := h; rw [if_pos (by omega), h1]
theorem osum3 {B M G : Int} {a b c : Option Int} {x y z : Int} (hB : 0 ≤ B) (ha : Stands B M a x) (hb : Stands B G b y) (hc : Stands B M c z) : Stands B (M + G + M) (osum [a, b, c]) (x + y + z) := by
  have x0 := ha.nonneg hB
  have y0 := hb.nonneg hB
  have z0 := hc.nonneg hB
  cases a with
  | none => have ha : B ≤ x := ha; show B ≤ _; omega
  | some a =>
    obtain ⟨a1, a2, a3⟩ := ha
    cases b with
    | none => have hb : B ≤ y := hb; show B ≤ _; omega
    | some b =>
      obtain ⟨b1, b2, b3⟩ := hb
      cases c with
      | none => have hc : B ≤ z := hc; show B ≤ _; omega
      | some c =>
        obtain ⟨c1, c2, c3⟩ := hc
        show x + y + z = a + (b + (c + 0)) ∧ 0 ≤ a + (b + (c + 0)) ∧ a + (b + (c + 0)) ≤ M + G + M
        omega
theorem osum5 {B M G : Int} {a b c d e : Option Int} {x y z u v : Int} (hB : 0 ≤ B) (ha : Stands B M a x) (hb : Stands B G b y) (hc : Stands B M c z) (hd : Stands B G d u) (he : Stands B M e v) : Stands B (M + G + M + G + M) (osum [a, b, c, d, e]) (x + y + z + u + v) := by
  have x0 := ha.nonneg hB
  have y0 := hb.nonneg hB
  have z0 := hc.nonneg hB
  have u0 := hd.nonneg hB
  have v0 := he.nonneg hB
  cases a with
  | none => have ha : B ≤ x := ha; show B ≤ _; omega
  | some a =>
    obtain ⟨a1, a2, a3⟩ := ha
    cases b with
    | none => have hb : B ≤ y := hb; show B ≤ _; omega
    | some b =>
      obtain ⟨b1, b2, b3⟩ := hb
      cases c with
      | none => have hc : B ≤ z := hc; show B ≤ _; omega
      | some c =>
        obtain ⟨c1, c2, c3⟩ := hc
        cases d with
        | none => have hd : B ≤ u := hd; show B ≤ _; omega
        | some d =>
          obtain ⟨d1, d2, d3⟩ := hd
          cases e with
          | none => have he : B ≤ v := he; show B ≤ _; omega
          | some e =>
            obtain ⟨e1, e2, e3⟩ := he
            show x + y + z + u + v = a + (b + (c + (d + (e + 0)))) ∧ 0 ≤ a + (b + (c + (d + (e + 0)))) ∧ a + (b + (c + (d + (e + 0)))) ≤ M + G + M + G + M
            omega
theorem omin2 {B M N : Int} {a b : Option Int} {x y : Int} (ha : Stands B M a x) (hb : Stands B N b y) (hM : M < B) (hN : N < B) : Stands B (max M N) (omin a b) (min x y) := by
  cases a with
  | none =>
    have ha : B ≤ x := ha
    cases b with
    | none => have hb : B ≤ y := hb; show B ≤ _; omega
    | some b =>
      obtain ⟨b1, b2, b3⟩ := hb
      show min x y = b ∧ _ ∧ _
      omega
  | some a =>
    obtain ⟨a1, a2, a3⟩ := ha
    cases b with
    | none =>
      have hb : B ≤ y := hb
      show min x y = a ∧ _ ∧ _
      omega
    | some b =>
      obtain ⟨b1, b2, b3⟩ := hb
      show min x y = min a b ∧ _ ∧ _
      omega
/-- the greatest cost of a level of k crates -/
def mostN (G : Int) : Nat → Int
  | 0 => 0
  | k + 1 => 3 * mostN G k + 2 * G
theorem mostN_nonneg {G : Int} (h : 0 ≤ G) : ∀ k, 0 ≤ mostN G k
  | 0 => Int.le_refl _
  | k + 1 => by have := mostN_nonneg h k; unfold mostN; omega
theorem mostN_lt {G : Int} (h : 0 < G) : ∀ k, mostN G k + G ≤ G * 3 ^ k
  | 0 => by show 0 + G ≤ G * 1; omega
  | k + 1 => by
    have i := mostN_lt h k
    have e : G * 3 ^ (k + 1) = 3 * (G * 3 ^ k) := by rw [Int.pow_succ]; rw [← Int.mul_assoc]; exact Int.mul_comm _ _
    rw [e]
    unfold mostN
    omega
theorem pow34 : ∀ k : Nat, (3 : Int) ^ k ≤ 4 ^ k
  | 0 => Int.le_refl _
  | k + 1 => by
    have i := pow34 k
    have p : (0 : Int) ≤ 3 ^ k := Int.pow_nonneg (by decide)
    rw [Int.pow_succ, Int.pow_succ]
    omega
theorem pow4_mono : ∀ {k n : Nat}, k ≤ n → (4 : Int) ^ k ≤ 4 ^ n := by
  intro k n h
  induction n with
  | zero => have : k = 0 := by omega
            rw [this]; exact Int.le_refl _
  | succ n ih =>
    by_cases e : k = n + 1
    · rw [e]; exact Int.le_refl _
    · have := ih (by omega)
      have p : (0 : Int) ≤ 4 ^ n := Int.pow_nonneg (by decide)
      rw [Int.pow_succ]
      omega
theorem mostN_bound {G : Int} {k n : Nat} (h : 0 < G) (hk : k ≤ n) : mostN G k < G * 4 ^ n := by
  have h1 := mostN_lt h k
  have h2 := Int.le_trans (pow34 k) (pow4_mono hk)
  have h3 : G * 3 ^ k ≤ G * 4 ^ n := Int.mul_le_mul_of_nonneg_left h2 (Int.le_of_lt h)
  omega
theorem step_stands {B G : Int} {k : Nat} {p D : Nat → Nat → Option Int} {q E : Nat → Nat → Int} (hB : 0 ≤ B) (hG : 0 ≤ G) (hM : mostN G (k + 1) < B) (hp : ∀ i j, i < 3 → j < 3 → i ≠ j → Stands B G (p i j) (q i j)) (hD : ∀ i j, i < 3 → j < 3 → i ≠ j → Stands B (mostN G k) (D i j) (E i j)) :
    ∀ i j, i < 3 → j < 3 → i ≠ j → Stands B (mostN G (k + 1)) (stepO p D i j) (stepN q E i j) := by
  intro i j hi hj n
  have m0 := mostN_nonneg hG k
  have ht : 3 - i - j < 3 ∧ i ≠ 3 - i - j ∧ 3 - i - j ≠ j := by omega
  have a := osum3 hB (hD i _ hi ht.1 ht.2.1) (hp i j hi hj n) (hD _ j ht.1 hj ht.2.2)
  have b := osum5 hB (hD i j hi hj n) (hp i _ hi ht.1 ht.2.1) (hD j i hj hi n.symm) (hp _ j ht.1 hj ht.2.2) (hD i j hi hj n)
  have e : mostN G (k + 1) = 3 * mostN G k + 2 * G := rfl
  refine (omin2 (a.mono (M' := mostN G (k + 1)) (by omega)) (b.mono (M' := mostN G (k + 1)) (by omega)) hM hM).mono ?_
  omega
end U
namespace U
open PySem PySem.Spec PyProof.Rows L2

def iV (ns : List Int) : List V := ns.map V.int
def sp_turned (K : PySem.W.Frag) : Sp := sp1 fun x H Q _ => ∃ p f, x = .ref p ∧ SqT K H p (iV (six f)) ∧ ∀ r H', Same H H' → H r = none → H' r = some (.tup (iV (six fun i j => f j i))) → Q (.ref r) H'
def sp_towers_above (K : PySem.W.Frag) : Sp := sp2 fun x y H Q _ => ∃ p q f g, x = .ref p ∧ y = .ref q ∧ SqT K H p (iV (six f)) ∧ SqT K H q (iV (six g)) ∧ ∀ r H', Same H H' → H r = none → H' r = some (.tup (iV (six (stepN f g)))) → Q (.ref r) H'
def three (f : Nat → Int) : List Int := [f 0, f 1, f 2]
def bl1 (p : Nat → Nat → Int) (u v : Nat → Int) (i j : Nat) : Int := u (3 - i - j) + p i j + v (3 - i - j)
def bl2 (p D : Nat → Nat → Int) (u v : Nat → Int) (i j : Nat) : Int := u j + p i (3 - i - j) + D j i + p (3 - i - j) j + v i
def sp_both_lines (K : PySem.W.Frag) : Sp := sp5' fun w x y z t H Q _ => ∃ i j px py pz pt f D u v, w = .str (wd [i, j]) ∧ i < 3 ∧ j < 3 ∧ i ≠ j ∧ x = .ref px ∧ y = .ref py ∧ z = .ref pz ∧ t = .ref pt ∧ SqT K H px (iV (six f)) ∧ SqT K H py (iV (six D)) ∧ SqT K H pz (iV (three u)) ∧ SqT K H pt (iV (three v)) ∧
  ∀ r H', Same H H' → H r = none → H' r = some (.tup (iV [bl1 f u v i j, bl2 f D u v i j])) → Q (.ref r) H'
where sp5' (f : V → V → V → V → V → Hp → VK → XK → Prop) : Sp := fun vs H Q E => match vs with
  | [x, y, z, u, v] => f x y z u v H Q E
  | _ => False
def t_turned (K : PySem.W.Frag) (E : XK) : TS := (tSeq (tAsg (tVar 0) (gTup K 6 (gCons (gName 1) (gCons (gName 2) (gCons (gName 3) (gCons (gName 4) (gCons (gName 5) (gCons (gName 6) gNil)))))))) (tRet (tTup (tCons (tVar 3) (tCons (tVar 5) (tCons (tVar 1) (tCons (tVar 6) (tCons (tVar 2) (tCons (tVar 4) tNil)))))))))
def t_towers_above (K : PySem.W.Frag) (E : XK) : TS := (tSeq (tAsg (tVar 1) (gTup K 6 (gCons (gName 2) (gCons (gName 3) (gCons (gName 4) (gCons (gName 5) (gCons (gName 6) (gCons (gName 7) gNil)))))))) (tSeq (tAsg (tVar 0) (gTup K 6 (gCons (gName 8) (gCons (gName 9) (gCons (gName 10) (gCons (gName 11) (gCons (gName 12) (gCons (gName 13) gNil)))))))) (tRet (tTup (tCons (tCB uMin2 (tCons (tOp uAdd (tOp uAdd (tVar 3) (tVar 8)) (tVar 7)) (tCons (tOp uAdd (tOp uAdd (tOp uAdd (tOp uAdd (tVar 2) (tVar 9)) (tVar 4)) (tVar 13)) (tVar 2)) tNil))) (tCons (tCB uMin2 (tCons (tOp uAdd (tOp uAdd (tVar 2) (tVar 9)) (tVar 5)) (tCons (tOp uAdd (tOp uAdd (tOp uAdd (tOp uAdd (tVar 3) (tVar 8)) (tVar 6)) (tVar 11)) (tVar 3)) tNil))) (tCons (tCB uMin2 (tCons (tOp uAdd (tOp uAdd (tVar 5) (tVar 10)) (tVar 6)) (tCons (tOp uAdd (tOp uAdd (tOp uAdd (tOp uAdd (tVar 4) (tVar 11)) (tVar 2)) (tVar 12)) (tVar 4)) tNil))) (tCons (tCB uMin2 (tCons (tOp uAdd (tOp uAdd (tVar 4) (tVar 11)) (tVar 3)) (tCons (tOp uAdd (tOp uAdd (tOp uAdd (tOp uAdd (tVar 5) (tVar 10)) (tVar 7)) (tVar 9)) (tVar 5)) tNil))) (tCons (tCB uMin2 (tCons (tOp uAdd (tOp uAdd (tVar 7) (tVar 12)) (tVar 4)) (tCons (tOp uAdd (tOp uAdd (tOp uAdd (tOp uAdd (tVar 6) (tVar 13)) (tVar 3)) (tVar 10)) (tVar 6)) tNil))) (tCons (tCB uMin2 (tCons (tOp uAdd (tOp uAdd (tVar 6) (tVar 13)) (tVar 2)) (tCons (tOp uAdd (tOp uAdd (tOp uAdd (tOp uAdd (tVar 7) (tVar 12)) (tVar 5)) (tVar 8)) (tVar 7)) tNil))) tNil))))))))))
def t_both_lines (K : PySem.W.Frag) (E : XK) : TS := (tSeq (tAsg (tOp (rTurn K) (tC (.ref (He.ga K "_TURNS"))) (tVar 0)) (gTup K 7 (gCons (gName 5) (gCons (gName 6) (gCons (gName 7) (gCons (gName 8) (gCons (gName 9) (gCons (gName 10) (gCons (gName 11) gNil))))))))) (tRet (tTup (tCons (tOp uAdd (tOp uAdd (tOp (uIx K) (tVar 3) (tVar 11)) (tOp (uIx K) (tVar 1) (tVar 5))) (tOp (uIx K) (tVar 4) (tVar 11))) (tCons (tOp uAdd (tOp uAdd (tOp uAdd (tOp uAdd (tOp (uIx K) (tVar 3) (tVar 10)) (tOp (uIx K) (tVar 1) (tVar 6))) (tOp (uIx K) (tVar 2) (tVar 8))) (tOp (uIx K) (tVar 1) (tVar 7))) (tOp (uIx K) (tVar 4) (tVar 9))) tNil)))))
section
variable {K : PySem.W.Frag} (F : KF K) {vs : List V} {H : Hp} {Q : VK} {E : XK}
local macro_rules | `(tactic| walk_at "w") => `(tactic| try simp only [turnE, lcT, Snoc, tRet, tRetN, tAndV, tOrV, tNotV, tCB, tCons, tVar, tNil, tC, tOp, tSeq, tAsg, gName, gSub, tIfS, tDrop, tFn, tTup, tLst, tNext, tB, tTest, tNot, tAnd, tOr, tIf, tChain, tUn, rU, tFld, tPart, tNoPart, L2.tSl, tBM, tPar, tPar3, tTruth, tDNewK,
  L2.start, List.map_cons, List.map_nil, List.length_cons, List.length_nil, List.replicate_succ, List.replicate_zero, List.append_nil, List.nil_append, List.cons_append, List.singleton_append, Nat.sub_self, Nat.zero_add, Nat.reduceAdd, Nat.reduceSub,
  List.getElem?_cons_zero, List.getElem?_cons_succ, List.set_cons_zero, List.set_cons_succ, Option.some.injEq, exists_eq_left, exists_eq_left', V.int.injEq, V.bl.injEq, V.str.injEq, V.ref.injEq,
  uAdd_int, uAdd_str, uSub_int, uMul_int, uMul_str, uDiv_int, uMod_int, uPow_int, uLt_int, uLe_int, uGt_int, uGe_int, uIs_non, uNis_non, uIs_bl, uNis_bl, sp1, sp2, sp3, sp4, uEq_int, uEq_str, uNe_int, uNe_str, uSl_str, uLen_str, decide_eq_true_eq])
local macro_rules | `(tactic| walk_at "1") => `(tactic| try simp only [turnE, lcT, Snoc, tRet, tRetN, tAndV, tOrV, tNotV, tCB, tCons, tVar, tNil, tC, tOp, tAsg, gName, gSub, tIfS, tDrop, tFn, tTup, tLst, tNext, tB, tTest, tNot, tAnd, tOr, tIf, tChain, tUn, rU, tFld, tPart, tNoPart, L2.tSl, tBM, tPar, tPar3, tTruth, tDNewK,
  L2.start, List.map_cons, List.map_nil, List.length_cons, List.length_nil, List.replicate_succ, List.replicate_zero, List.append_nil, List.nil_append, List.cons_append, List.singleton_append, Nat.sub_self, Nat.zero_add, Nat.reduceAdd, Nat.reduceSub,
  List.getElem?_cons_zero, List.getElem?_cons_succ, List.set_cons_zero, List.set_cons_succ, Option.some.injEq, exists_eq_left, exists_eq_left', V.int.injEq, V.bl.injEq, V.str.injEq, V.ref.injEq,
  uAdd_int, uAdd_str, uSub_int, uMul_int, uMul_str, uDiv_int, uMod_int, uPow_int, uLt_int, uLe_int, uGt_int, uGe_int, uIs_non, uNis_non, uIs_bl, uNis_bl, sp1, sp2, sp3, sp4, uEq_int, uEq_str, uNe_int, uNe_str, uSl_str, uLen_str, decide_eq_true_eq])
local macro_rules | `(tactic| walk_at "s") => `(tactic| ((try dsimp only [turnE]); with_reducible refine seq_ ?_))

theorem min_int {a b : Int} : (if b < a then b else a) = min a b := by
  by_cases h : b < a
  · rw [if_pos h]; omega
  · rw [if_neg h]; omega
/-- a tuple of n numbers in n names -/
theorem un1 {i : Nat} {u : TGs} {v : V} {r : List V} {σ : L2.St} {Q : L2.St → Hp → Prop} (h : u r (σ.set i (some v)) H Q) : gCons (gName i) u (v :: r) σ H Q := ⟨v, r, rfl, h⟩
theorem un0 {σ : L2.St} {Q : L2.St → Hp → Prop} (h : Q σ H) : gNil [] σ H Q := ⟨rfl, h⟩
include F in
theorem read_turned (h : sp_turned K vs H Q E) : t_turned K E { nx := fun _ H' => Q .non H', rt := Q } (start ["six", "ab", "ac", "ba", "bc", "ca", "cb"] vs) H := by
  match vs, h with
  | [_], ⟨p, f, rfl, hp, q⟩ =>
    unfold t_turned
    walk_at "s"
    walk_at "1"
    refine ⟨p, _, rfl, hp, rfl, un1 (un1 (un1 (un1 (un1 (un1 (un0 ?_))))))⟩
    walk_at "1"
    exact ⟨by decide, fun r hr => q r _ (same_new hr) hr upd_same⟩
include F in
theorem read_towers_above (h : sp_towers_above K vs H Q E) : t_towers_above K E { nx := fun _ H' => Q .non H', rt := Q } (start ["prices", "below", "ab", "ac", "ba", "bc", "ca", "cb", "price_ab", "price_ac", "price_ba", "price_bc", "price_ca", "price_cb"] vs) H := by
  match vs, h with
  | [_, _], ⟨p, b, f, g, rfl, rfl, hp, hb, q⟩ =>
    unfold t_towers_above
    walk_at "s"
    walk_at "1"
    refine ⟨b, _, rfl, hb, rfl, un1 (un1 (un1 (un1 (un1 (un1 (un0 ?_))))))⟩
    walk_at "s"
    walk_at "1"
    refine ⟨p, _, rfl, hp, rfl, un1 (un1 (un1 (un1 (un1 (un1 (un0 ?_))))))⟩
    walk_at "1"
    refine ⟨_, _, rfl, ⟨_, _, rfl, ⟨_, _, rfl, ⟨_, _, rfl, ⟨_, _, rfl, ⟨_, _, rfl, ⟨by decide, fun r hr => q r _ (same_new hr) hr ?_⟩⟩⟩⟩⟩⟩⟩
    rw [upd_same]
    simp only [min_int]
    rfl
theorem turn_at {i j : Nat} (hi : i < 3) (hj : j < 3) (n : i ≠ j) : ∃ c1 c2 c3 c4 : Nat, (wd [i, j], [(c1 : Int), c2, c3, c4, i, j, ((3 - i - j : Nat) : Int)]) ∈ turnsT ∧
    (∀ f : Nat → Nat → Int, (six f)[c1]? = some (f i j) ∧ (six f)[c2]? = some (f i (3 - i - j)) ∧ (six f)[c3]? = some (f (3 - i - j) j) ∧ (six f)[c4]? = some (f j i)) := by
  rcases (show i = 0 ∧ j = 1 ∨ i = 0 ∧ j = 2 ∨ i = 1 ∧ j = 0 ∨ i = 1 ∧ j = 2 ∨ i = 2 ∧ j = 0 ∨ i = 2 ∧ j = 1 by omega) with ⟨rfl, rfl⟩ | ⟨rfl, rfl⟩ | ⟨rfl, rfl⟩ | ⟨rfl, rfl⟩ | ⟨rfl, rfl⟩ | ⟨rfl, rfl⟩
  · exact ⟨0, 1, 5, 2, by decide +kernel, fun f => ⟨rfl, rfl, rfl, rfl⟩⟩
  · exact ⟨1, 0, 3, 4, by decide +kernel, fun f => ⟨rfl, rfl, rfl, rfl⟩⟩
  · exact ⟨2, 3, 4, 0, by decide +kernel, fun f => ⟨rfl, rfl, rfl, rfl⟩⟩
  · exact ⟨3, 2, 1, 5, by decide +kernel, fun f => ⟨rfl, rfl, rfl, rfl⟩⟩
  · exact ⟨4, 5, 2, 1, by decide +kernel, fun f => ⟨rfl, rfl, rfl, rfl⟩⟩
  · exact ⟨5, 4, 0, 3, by decide +kernel, fun f => ⟨rfl, rfl, rfl, rfl⟩⟩
theorem ix_six {p c : Addr} {x : Int} {k : Nat} {ns : List Int} (h : SqT K H p (iV ns)) (e : ns[k]? = some x) (q : Q (.int x) H) : uIx K (.ref p) (.int (k : Nat)) H Q :=
  ⟨_, .int x, .inr h, at_nat (by unfold iV; rw [List.getElem?_map, e]; rfl), q⟩
theorem three_at (u : Nat → Int) {k : Nat} (hk : k < 3) : (three u)[k]? = some (u k) := by
  match k, hk with
  | 0, _ => rfl
  | 1, _ => rfl
  | 2, _ => rfl
include F in
theorem read_both_lines (h : sp_both_lines K vs H Q E) : t_both_lines K E { nx := fun _ H' => Q .non H', rt := Q } (start ["way", "prices", "towers", "to_towers", "from_towers", "straight", "first", "second", "back", "here", "there", "over"] vs) H := by
  match vs, h with
  | [_, _, _, _, _], ⟨i, j, px, py, pz, pt, f, D, u, v, rfl, hi, hj, n, rfl, rfl, rfl, rfl, h1, h2, h3, h4, q⟩ =>
    unfold t_both_lines
    obtain ⟨c1, c2, c3, c4, mem, at_⟩ := turn_at hi hj n
    obtain ⟨f1, f2, f3, f4⟩ := at_ f
    obtain ⟨_, _, _, d4⟩ := at_ D
    have ht : 3 - i - j < 3 := by omega
    walk_at "s"
    walk_at "1"
    refine ⟨_, _, rfl, rfl, mem, fun p hp => ?_⟩
    refine ⟨p, _, rfl, hp, rfl, un1 (un1 (un1 (un1 (un1 (un1 (un1 (un0 ?_)))))))⟩
    walk_at "1"
    refine ix_six (c := p) h3 (three_at u ht) (ix_six (c := p) h1 f1 ?_)
    walk_at "1"
    refine ix_six (c := p) h4 (three_at v ht) ?_
    walk_at "1"
    refine ix_six (c := p) h3 (three_at u hj) (ix_six (c := p) h1 f2 ?_)
    walk_at "1"
    refine ix_six (c := p) h2 d4 ?_
    walk_at "1"
    refine ix_six (c := p) h1 f3 ?_
    walk_at "1"
    refine ix_six (c := p) h4 (three_at v hi) ?_
    walk_at "1"
    exact ⟨by decide, fun r hr => q r _ (same_new hr) hr upd_same⟩
end
end U
namespace U
open PySem PySem.Spec PyProof.Rows L2

/-! ### a dict comprehension over pairs -/
/-- the turns of such a comprehension, D its dict -/
def DcB (J : It) (g : TG) (tt : TT) (tk tv : TE) (vs : List Nat) (σ : L2.St) (H1 : Hp) (D : Addr) (Qd : Hp → Prop) : Prop :=
  ∃ W : Nat → Nat → Hp → Prop, (∃ m, W 0 m (upd H1 D (.dK []))) ∧ ∀ i m H, W i m H → (J.stop i H ∧ Qd H) ∨ (J.go i H ∧ ∃ Nx : Hp → Prop, (∀ H', Nx H' → ∃ m', m' < m ∧ W (i + 1) m' H') ∧ ∀ x H', J.yld i H x H' → g x (wipe σ vs) H' fun ρ H2 => wipe ρ vs = wipe σ vs ∧ tt ρ H2 fun b H3 =>
        if b = true then tk ρ H3 fun u H4 => tv ρ H4 fun z H5 => ∃ kvs k, u = kV k ∧ H5 D = some (.dK kvs) ∧ kvs.length < sizeLine ∧ Nx (upd H5 D (.dK (putK kvs k z))) else Nx H3)
theorem tDc_zipA {K : PySem.W.Frag} {ta : TA} {g : TG} {tt : TT} {tk tv : TE} {vs : List Nat} {σ : L2.St} {H : Hp} {Q : VK} (h : RZ.iZipA K ta σ H fun J H1 => ∀ D, H1 D = none → DcB J g tt tk tv vs σ H1 D (Q (.ref D))) : tDc (iZipV K ta) g tt tk tv vs σ H Q := .inr h
theorem dc_zip {J : It} {xs ys : List V} {G : Hp → Prop} (Z : Zipped J xs ys G) {g : TG} {tt : TT} {tk tv : TE} {vs : List Nat} {σ : L2.St} {H1 : Hp} {D : Addr} {Qd : Hp → Prop} (Pv : Nat → Hp → Prop) (h0 : Pv 0 (upd H1 D (.dK []))) (hG : ∀ i H, Pv i H → G H)
    (hs : ∀ i x y T H, xs[i]? = some x → ys[i]? = some y → Pv i H → H T = none → g (.ref T) (wipe σ vs) (upd H T (.tup [x, y])) fun ρ H2 => wipe ρ vs = wipe σ vs ∧ tt ρ H2 fun b H3 =>
      if b = true then tk ρ H3 fun u H4 => tv ρ H4 fun z H5 => ∃ kvs k, u = kV k ∧ H5 D = some (.dK kvs) ∧ kvs.length < sizeLine ∧ Pv (i + 1) (upd H5 D (.dK (putK kvs k z))) else Pv (i + 1) H3)
    (hd : ∀ H, Pv (min xs.length ys.length) H → Qd H) :
    DcB J g tt tk tv vs σ H1 D Qd := by
  refine ⟨fun i m H => m = min xs.length ys.length - i ∧ (i ≤ min xs.length ys.length ∧ Pv i H), ⟨_, rfl, Nat.zero_le _, h0⟩, ?_⟩
  rintro i m H ⟨rfl, hi, p⟩
  by_cases lt : i < min xs.length ys.length
  · refine .inr ⟨Z.go i H (hG i H p) (by omega) (by omega), Pv (i + 1), fun H' p' => ⟨min xs.length ys.length - (i + 1), by omega, rfl, lt, p'⟩, fun v H' yd => ?_⟩
    obtain ⟨T, x, y, rfl, hT, rfl, e1, e2⟩ := Z.yld i H v H' (hG i H p) yd
    exact hs i x y T H e1 e2 p hT
  · have e : i = min xs.length ys.length := by omega
    subst e
    exact .inl ⟨Z.stop _ H (hG _ H p) (by omega) (by omega) (by omega), hd H p⟩
theorem pair_in {K : PySem.W.Frag} {T : Addr} {x y : V} {i j : Nat} {σ : L2.St} {H : Hp} {Q : L2.St → Hp → Prop} (h : H T = some (.tup [x, y])) (q : Q ((σ.set i (some x)).set j (some y)) H) : gTup K 2 (gCons (gName i) (gCons (gName j) gNil)) (.ref T) σ H Q :=
  ⟨T, _, rfl, .inl (.inl h), rfl, x, _, rfl, y, _, rfl, rfl, q⟩
/-! ### what the head tells of the class Reckoning -/
structure KR (K : PySem.W.Frag) : Prop where
  cl : Cls K (He.ga K "Reckoning")
  bound : NoAttr K (He.ga K "Reckoning") "bound"
  prices : NoAttr K (He.ga K "Reckoning") "prices"
  towers : NoAttr K (He.ga K "Reckoning") "towers"
  back : NoAttr K (He.ga K "Reckoning") "_backwards"
  ne : He.ga K "Yard" ≠ He.ga K "Reckoning"
/-- the fields of a reckoning -/
def rkF (B : Int) (lp lt : V) (bk : V) : List (Str × V) := [("bound", .int B), ("prices", lp), ("towers", lt), ("_backwards", bk)]
def RkAt (K : PySem.W.Frag) (H : Hp) (a : Addr) (B : Int) (lp lt : V) : Prop := ∃ dx bk, H a = some (.ins (He.ga K "Reckoning") dx (rkF B lp lt bk))
def toldV (B n : Int) : Option Int := if n < B then some n else none
def sp_Reckoning_init (K : PySem.W.Frag) : Sp := sp4 fun s b p t H Q _ => ∃ a dx B, s = .ref a ∧ b = .int B ∧ H a = some (.ins (He.ga K "Reckoning") dx []) ∧ ∀ H', Off a H H' → H' a = some (.ins (He.ga K "Reckoning") dx (rkF B p t .non)) → Q .non H'
def sp_Reckoning_told (K : PySem.W.Frag) : Sp := sp2 fun s x H Q _ => ∃ a B lp lt n, s = .ref a ∧ RkAt K H a B lp lt ∧ x = .int n ∧ Q (pV (toldV B n)) H
/-- names with what is told of as many numbers -/
def namedK (B : Int) (zs : List Str) (ns : List Int) : List (Key × V) := (zs.zip ns).map fun p => (.inr p.1, pV (toldV B p.2))
def sp_Reckoning_named (K : PySem.W.Frag) : Sp := sp3 fun s x y H Q _ => ∃ a B lp lt p q zs ns, s = .ref a ∧ RkAt K H a B lp lt ∧ x = .ref p ∧ y = .ref q ∧ SqT K H p (zs.map V.str) ∧ SqT K H q (iV ns) ∧ zs.Nodup ∧ zs.length ≤ 10 ∧ zs.length = ns.length ∧
  ∀ r H', Same H H' → H r = none → H' r = some (.dK (namedK B zs ns)) → Q (.ref r) H'
def t_Reckoning_init (K : PySem.W.Frag) (E : XK) : TS := (tSeq (sFld K (tVar 0) (tVar 1) "bound") (tSeq (sFld K (tVar 0) (tVar 2) "prices") (tSeq (sFld K (tVar 0) (tVar 3) "towers") (sFld K (tVar 0) (tC .non) "_backwards"))))
def t_Reckoning_told (K : PySem.W.Frag) (E : XK) : TS := (tRet (tIf (tTest (tOp uLt (tVar 1) (tFld K (tVar 0) "bound"))) (tVar 1) (tC .non)))
def t_Reckoning_named (K : PySem.W.Frag) (E : XK) : TS := (tSeq (tAsg (tFld K (tVar 0) "bound") (gName 3)) (tRet (tDc (iZipV K (tCons (tVar 1) (tCons (tVar 2) tNil))) (gTup K 2 (gCons (gName 4) (gCons (gName 5) gNil))) tYes (tVar 4) (tIf (tTest (tOp uLt (tVar 5) (tVar 3))) (tVar 5) (tC .non)) [4, 5])))
section
variable {K : PySem.W.Frag} (F : KF K) (R : KR K) {vs : List V} {H : Hp} {Q : VK} {E : XK}
local macro_rules | `(tactic| walk_at "w") => `(tactic| try simp only [turnE, lcT, Snoc, tRet, tRetN, tAndV, tOrV, tNotV, tCB, tCons, tVar, tNil, tC, tOp, tSeq, tAsg, gName, gSub, tIfS, tDrop, tFn, tTup, tLst, tNext, tB, tTest, tNot, tAnd, tOr, tIf, tChain, tUn, rU, tFld, tPart, tNoPart, L2.tSl, tBM, tPar, tPar3, tTruth, tDNewK,
  L2.start, List.map_cons, List.map_nil, List.length_cons, List.length_nil, List.replicate_succ, List.replicate_zero, List.append_nil, List.nil_append, List.cons_append, List.singleton_append, Nat.sub_self, Nat.zero_add, Nat.reduceAdd, Nat.reduceSub,
  List.getElem?_cons_zero, List.getElem?_cons_succ, List.set_cons_zero, List.set_cons_succ, Option.some.injEq, exists_eq_left, exists_eq_left', V.int.injEq, V.bl.injEq, V.str.injEq, V.ref.injEq,
  uAdd_int, uAdd_str, uSub_int, uMul_int, uMul_str, uDiv_int, uMod_int, uPow_int, uLt_int, uLe_int, uGt_int, uGe_int, uIs_non, uNis_non, uIs_bl, uNis_bl, sp1, sp2, sp3, sp4, uEq_int, uEq_str, uNe_int, uNe_str, uSl_str, uLen_str, decide_eq_true_eq])
local macro_rules | `(tactic| walk_at "1") => `(tactic| try simp only [turnE, lcT, Snoc, tRet, tRetN, tAndV, tOrV, tNotV, tCB, tCons, tVar, tNil, tC, tOp, tAsg, gName, gSub, tIfS, tDrop, tFn, tTup, tLst, tNext, tB, tTest, tNot, tAnd, tOr, tIf, tChain, tUn, rU, tFld, tPart, tNoPart, L2.tSl, tBM, tPar, tPar3, tTruth, tDNewK,
  L2.start, List.map_cons, List.map_nil, List.length_cons, List.length_nil, List.replicate_succ, List.replicate_zero, List.append_nil, List.nil_append, List.cons_append, List.singleton_append, Nat.sub_self, Nat.zero_add, Nat.reduceAdd, Nat.reduceSub,
  List.getElem?_cons_zero, List.getElem?_cons_succ, List.set_cons_zero, List.set_cons_succ, Option.some.injEq, exists_eq_left, exists_eq_left', V.int.injEq, V.bl.injEq, V.str.injEq, V.ref.injEq,
  uAdd_int, uAdd_str, uSub_int, uMul_int, uMul_str, uDiv_int, uMod_int, uPow_int, uLt_int, uLe_int, uGt_int, uGe_int, uIs_non, uNis_non, uIs_bl, uNis_bl, sp1, sp2, sp3, sp4, uEq_int, uEq_str, uNe_int, uNe_str, uSl_str, uLen_str, decide_eq_true_eq])
local macro_rules | `(tactic| walk_at "s") => `(tactic| ((try dsimp only [turnE]); with_reducible refine seq_ ?_))

include F R in
theorem read_Reckoning_init (h : sp_Reckoning_init K vs H Q E) : t_Reckoning_init K E { nx := fun _ H' => Q .non H', rt := Q } (start ["self", "bound", "prices", "towers"] vs) H := by
  match vs, h with
  | [_, _, p, t], ⟨a, dx, B, rfl, rfl, ha, q⟩ =>
    unfold t_Reckoning_init
    simp only [tSeq, sFld]
    walk_at "1"
    refine ⟨a, _, dx, _, rfl, ha, R.cl, R.bound, by decide, ?_⟩
    have e1 : putF "bound" (.int B) [] = ([("bound", .int B)] : List (Str × V)) := rfl
    have e2 : putF "prices" p ([("bound", .int B)] : List (Str × V)) = ([("bound", .int B), ("prices", p)] : List (Str × V)) := rfl
    have e3 : putF "towers" t ([("bound", .int B), ("prices", p)] : List (Str × V)) = ([("bound", .int B), ("prices", p), ("towers", t)] : List (Str × V)) := rfl
    have e4 : putF "_backwards" .non ([("bound", .int B), ("prices", p), ("towers", t)] : List (Str × V)) = rkF B p t .non := rfl
    refine ⟨a, _, dx, _, rfl, upd_same, R.cl, R.prices, by rw [e1]; show (1 : Nat) < 1000; decide, ?_⟩
    rw [e1, e2]
    refine ⟨a, _, dx, _, rfl, upd_same, R.cl, R.towers, by show (2 : Nat) < 1000; decide, ?_⟩
    rw [e3]
    refine ⟨a, _, dx, _, rfl, upd_same, R.cl, R.back, by show (3 : Nat) < 1000; decide, ?_⟩
    rw [e4]
    exact q _ (Off.trans (Off.trans (Off.trans off_upd off_upd) off_upd) off_upd) upd_same
include F R in
theorem read_Reckoning_told (h : sp_Reckoning_told K vs H Q E) : t_Reckoning_told K E { nx := fun _ H' => Q .non H', rt := Q } (start ["self", "number"] vs) H := by
  match vs, h with
  | [_, _], ⟨a, B, lp, lt, n, rfl, ⟨dx, bk, ha⟩, rfl, q⟩ =>
    unfold t_Reckoning_told
    walk_at "1"
    refine ⟨a, _, dx, _, .int B, rfl, ha, R.cl, R.bound, rfl, ?_⟩
    walk_at "1"
    by_cases l : n < B
    · rw [toldV, if_pos l] at q
      rw [if_pos l]
      exact q
    · rw [toldV, if_neg l] at q
      rw [if_neg l]
      exact q
/-- the numbers of a list, as they come out of a zip -/
theorem put_new {kvs : List (Key × V)} {k : Key} {v : V} (h : ∀ p ∈ kvs, p.1 ≠ k) : putK kvs k v = kvs ++ [(k, v)] := by
  unfold putK
  rw [if_neg]
  simp only [List.any_eq_true, decide_eq_true_eq, not_exists, not_and]
  exact h
include F R in
theorem read_Reckoning_named (h : sp_Reckoning_named K vs H Q E) : t_Reckoning_named K E { nx := fun _ H' => Q .non H', rt := Q } (start ["self", "names", "numbers", "bound", "name", "number"] vs) H := by
  match vs, h with
  | [_, _, _], ⟨a, B, lp, lt, p, b, zs, ns, rfl, ⟨dx, bk, ha⟩, rfl, rfl, hp, hb, nd, few, same, q⟩ =>
    unfold t_Reckoning_named
    walk_at "s"
    walk_at "1"
    refine ⟨a, _, dx, _, .int B, rfl, ha, R.cl, R.bound, rfl, ?_⟩
    refine tDc_zipA ?_
    refine ⟨.ref p, rfl, .ref b, rfl, p, b, _, _, rfl, .inr ⟨hp, hb, fun D hD => ?_⟩⟩
    refine dc_zip (zipped_TT (K := K) (a := p) (b := b) (xs := zs.map V.str) (ys := iV ns))
      (fun i H' => Off D H H' ∧ H' D = some (.dK (namedK B (zs.take i) (ns.take i)))) ⟨off_upd, upd_same⟩ (fun i H' z => ⟨Same.sqT (z.1.same hD) hp, Same.sqT (z.1.same hD) hb⟩) ?_ ?_
    · rintro i x y T H2 hx hy ⟨o2, gD⟩ nT
      refine pair_in upd_same ?_
      rw [List.getElem?_map] at hx
      obtain ⟨z, hz, rfl⟩ := Option.map_eq_some_iff.mp hx
      unfold iV at hy
      rw [List.getElem?_map] at hy
      obtain ⟨n, hn, rfl⟩ := Option.map_eq_some_iff.mp hy
      have lz := (List.getElem?_eq_some_iff.mp hz).1
      have ln := (List.getElem?_eq_some_iff.mp hn).1
      have nTD : D ≠ T := by rintro rfl; rw [gD] at nT; cases nT
      have o3 : Off D H (upd H2 T (.tup [.str z, .int n])) := Off.trans o2 (Same.off (same_new nT))
      have gD3 : upd H2 T (.tup [.str z, .int n]) D = some (.dK (namedK B (zs.take i) (ns.take i))) := by rw [upd_ne nTD]; exact gD
      generalize upd H2 T (.tup [.str z, .int n]) = H3 at *
      refine ⟨rfl, ?_⟩
      unfold tYes
      dsimp only
      rw [if_pos rfl, show wipe [some (V.ref a), some (V.ref p), some (V.ref b), some (V.int B), none, none] [4, 5] = [some (V.ref a), some (V.ref p), some (V.ref b), some (V.int B), none, none] from rfl]
      simp only [List.set_cons_zero, List.set_cons_succ]
      have et : namedK B (zs.take (i + 1)) (ns.take (i + 1)) = namedK B (zs.take i) (ns.take i) ++ [(.inr z, pV (toldV B n))] := by
        unfold namedK
        rw [List.take_succ_eq_append_getElem lz, List.take_succ_eq_append_getElem ln, List.zip_append (by rw [List.length_take, List.length_take]; omega), List.map_append]
        rw [(List.getElem?_eq_some_iff.mp hz).2, (List.getElem?_eq_some_iff.mp hn).2]
        rfl
      have fresh : ∀ q ∈ namedK B (zs.take i) (ns.take i), q.1 ≠ .inr z := by
        rintro q m e
        unfold namedK at m
        obtain ⟨w, mw, rfl⟩ := List.mem_map.mp m
        have e : w.1 = z := Sum.inr.inj e
        have m2 := (List.of_mem_zip mw).1
        rw [e] at m2
        obtain ⟨k, lk, ek⟩ := List.mem_iff_getElem.mp m2
        rw [List.length_take] at lk
        rw [List.getElem_take] at ek
        have hz2 := (List.getElem?_eq_some_iff.mp hz).2
        have ek2 : zs[k]? = zs[i]? := by rw [List.getElem?_eq_getElem (by omega), hz, ek]
        have := (List.getElem?_inj (by omega) nd).mp ek2
        omega
      have few2 : (namedK B (zs.take i) (ns.take i)).length < sizeLine := by
        unfold namedK
        rw [List.length_map, List.length_zip, List.length_take, sizeLine_eq]
        omega
      have fin : upd H3 D (.dK (putK (namedK B (zs.take i) (ns.take i)) (.inr z) (pV (toldV B n)))) D = some (.dK (namedK B (zs.take (i + 1)) (ns.take (i + 1)))) := by rw [upd_same, et, put_new fresh]
      refine ⟨.str z, rfl, ?_⟩
      walk_at "1"
      by_cases l : n < B
      · rw [toldV, if_pos l] at fin
        rw [if_pos l]
        exact ⟨_, .inr z, rfl, gD3, few2, Off.trans o3 off_upd, fin⟩
      · rw [toldV, if_neg l] at fin
        rw [if_neg l]
        exact ⟨_, .inr z, rfl, gD3, few2, Off.trans o3 off_upd, fin⟩
    · intro H2 ⟨o2, gD⟩
      rw [List.length_map, show (iV ns).length = ns.length from List.length_map _, ← same, Nat.min_self, List.take_length, same, List.take_length] at gD
      exact q D H2 (o2.same hD) hD gD
end
end U
namespace U
open PySem PySem.Spec PyProof.Rows L2

/-! ### comprehensions of two clauses -/
def lc3T (g : TG) (tt : TT) (te : TE) (vs : List Nat) (σ : L2.St) (D : Addr) (N : Hp → Prop) (x : V) (H : Hp) : Prop :=
  g x (wipe σ vs) H fun τ H2 => wipe τ vs = wipe σ vs ∧ tt τ H2 fun b H3 => if b = true then te τ H3 (fun y H4 => ∃ acc, H4 D = some (.lst acc) ∧ acc.length < sizeLine ∧ N (upd H4 D (.lst (acc ++ [y])))) else N H3
def lc2T (g : TG) (tt : TT) (wi1 : TI) (g1 : TG) (tt1 : TT) (te : TE) (vs vs1 : List Nat) (σ : L2.St) (D : Addr) (N : Hp → Prop) (x : V) (H : Hp) : Prop :=
  g x (wipe σ vs) H fun τ H2 => wipe τ vs = wipe σ vs ∧ tt τ H2 fun b H3 => if b = true then wi1 τ H3 fun J1 H4 => Laps J1 H4 N fun y H5 N1 => lc3T g1 tt1 te vs1 τ D N1 y H5 else N H3
theorem tLc2_of {wi : TI} {g : TG} {tt : TT} {wi1 : TI} {g1 : TG} {tt1 : TT} {te : TE} {vs vs1 : List Nat} {σ : L2.St} {H : Hp} {Q : VK} (h : wi σ H fun J H1 => ∀ D, H1 D = none → Laps J (upd H1 D (.lst [])) (Q (.ref D)) fun x H' N => lc2T g tt wi1 g1 tt1 te vs vs1 σ D N x H') :
    tLc2 wi g tt wi1 g1 tt1 te vs vs1 σ H Q := h
/-! ### the prices of a reckoning -/
def PrB (K : PySem.W.Frag) (H : Hp) (l : Addr) (qs : List (List Int)) : Prop := ∃ bs : List Addr, H l = some (.lst (bs.map V.ref)) ∧ bs.length = qs.length ∧ ∀ (i : Nat) (b : Addr) (q : List Int), bs[i]? = some b → qs[i]? = some q → SqT K H b (iV q)
theorem PrB.same {K : PySem.W.Frag} {H H' : Hp} {l : Addr} {qs : List (List Int)} (e : Same H H') (h : PrB K H l qs) : PrB K H' l qs := by
  obtain ⟨bs, h1, h2, h3⟩ := h
  exact ⟨bs, e _ _ h1, h2, fun i b q z1 z2 => Same.sqT e (h3 i b q z1 z2)⟩
def rowI (B : Int) (r : List (Option Int)) : List Int := r.map fun o => o.getD B
def RowsT (K : PySem.W.Frag) (H : Hp) (t : Addr) (rows : List (List (Option Int))) : Prop := ∃ as : List Addr, SqT K H t (as.map V.ref) ∧ as.length = rows.length ∧ rows.length ≤ 60 ∧ (∀ (i : Nat) (a : Addr) (r : List (Option Int)), as[i]? = some a → rows[i]? = some r → SqT K H a (r.map pV)) ∧ ∀ r ∈ rows, r.length = 6
def sp_without_bars (K : PySem.W.Frag) : Sp := sp2 fun x y H Q _ => ∃ t rows B, x = .ref t ∧ y = .int B ∧ RowsT K H t rows ∧ ∀ l H', Same H H' → H l = none → PrB K H' l (rows.reverse.map (rowI B)) → Q (.ref l) H'
def t_without_bars (K : PySem.W.Frag) (E : XK) : TS := (tRet (tLc (iSeq K (tRevU K (tVar 0))) (gName 2) tYes (tIf (tTest (tOp (uIn K false) (tC .non) (tVar 2))) (tCB (uTup K) (tCons (tLc (iSeq K (tVar 2)) (gName 3) tYes (tIf (tTest (tOp uIs (tVar 3) (tC .non))) (tVar 1) (tVar 3)) [3]) tNil)) (tVar 2)) [2]))
section
variable {K : PySem.W.Frag} (F : KF K) (R : KR K) {vs : List V} {H : Hp} {Q : VK} {E : XK}
local macro_rules | `(tactic| walk_at "w") => `(tactic| try simp only [turnE, lcT, Snoc, tRet, tRetN, tAndV, tOrV, tNotV, tCB, tCons, tVar, tNil, tC, tOp, tSeq, tAsg, gName, gSub, tIfS, tDrop, tFn, tTup, tLst, tNext, tB, tTest, tNot, tAnd, tOr, tIf, tChain, tUn, rU, tFld, tPart, tNoPart, L2.tSl, tBM, tPar, tPar3, tTruth, tDNewK,
  L2.start, List.map_cons, List.map_nil, List.length_cons, List.length_nil, List.replicate_succ, List.replicate_zero, List.append_nil, List.nil_append, List.cons_append, List.singleton_append, Nat.sub_self, Nat.zero_add, Nat.reduceAdd, Nat.reduceSub,
  List.getElem?_cons_zero, List.getElem?_cons_succ, List.set_cons_zero, List.set_cons_succ, Option.some.injEq, exists_eq_left, exists_eq_left', V.int.injEq, V.bl.injEq, V.str.injEq, V.ref.injEq,
  uAdd_int, uAdd_str, uSub_int, uMul_int, uMul_str, uDiv_int, uMod_int, uPow_int, uLt_int, uLe_int, uGt_int, uGe_int, uIs_non, uNis_non, uIs_bl, uNis_bl, sp1, sp2, sp3, sp4, uEq_int, uEq_str, uNe_int, uNe_str, uSl_str, uLen_str, decide_eq_true_eq])
local macro_rules | `(tactic| walk_at "1") => `(tactic| try simp only [turnE, lcT, Snoc, tRet, tRetN, tAndV, tOrV, tNotV, tCB, tCons, tVar, tNil, tC, tOp, tAsg, gName, gSub, tIfS, tDrop, tFn, tTup, tLst, tNext, tB, tTest, tNot, tAnd, tOr, tIf, tChain, tUn, rU, tFld, tPart, tNoPart, L2.tSl, tBM, tPar, tPar3, tTruth, tDNewK,
  L2.start, List.map_cons, List.map_nil, List.length_cons, List.length_nil, List.replicate_succ, List.replicate_zero, List.append_nil, List.nil_append, List.cons_append, List.singleton_append, Nat.sub_self, Nat.zero_add, Nat.reduceAdd, Nat.reduceSub,
  List.getElem?_cons_zero, List.getElem?_cons_succ, List.set_cons_zero, List.set_cons_succ, Option.some.injEq, exists_eq_left, exists_eq_left', V.int.injEq, V.bl.injEq, V.str.injEq, V.ref.injEq,
  uAdd_int, uAdd_str, uSub_int, uMul_int, uMul_str, uDiv_int, uMod_int, uPow_int, uLt_int, uLe_int, uGt_int, uGe_int, uIs_non, uNis_non, uIs_bl, uNis_bl, sp1, sp2, sp3, sp4, uEq_int, uEq_str, uNe_int, uNe_str, uSl_str, uLen_str, decide_eq_true_eq])
local macro_rules | `(tactic| walk_at "s") => `(tactic| ((try dsimp only [turnE]); with_reducible refine seq_ ?_))

theorem in_nons (r : List (Option Int)) : inV .non (r.map pV) = r.contains none := by
  unfold inV
  induction r with
  | nil => rfl
  | cons o t ih =>
    rw [List.map_cons, List.any_cons, ih, List.contains_cons]
    cases o <;> rfl
theorem flat_pvs (r : List (Option Int)) : (r.map pV).all flatV = true := by
  rw [List.all_map]
  refine List.all_eq_true.mpr fun o _ => ?_
  cases o <;> rfl
theorem rowI_full {B : Int} {r : List (Option Int)} (h : r.contains none = false) : (rowI B r).map V.int = r.map pV := by
  unfold rowI
  rw [List.map_map]
  refine List.map_congr_left fun o m => ?_
  cases o with
  | none => rw [List.contains_iff_mem.mpr m] at h; cases h
  | some i => rfl
include F in
theorem read_without_bars (h : sp_without_bars K vs H Q E) : t_without_bars K E { nx := fun _ H' => Q .non H', rt := Q } (start ["rows", "bound", "row", "price"] vs) H := by
  match vs, h with
  | [_, _], ⟨t, rows, B, rfl, rfl, ⟨as, h1, h2, h3, h4, h5⟩, q⟩ =>
    unfold t_without_bars
    simp only [tRet]
    refine tLc_inT ?_
    refine .inr ⟨.ref t, rfl, t, _, rfl, h1, fun p hp => ⟨p, rfl, ⟨_, .inl (.inl upd_same)⟩, fun D hD => ?_⟩⟩
    have s1 : Same H (upd H p (.tup (as.map V.ref).reverse)) := same_new hp
    have g1 : upd H p (.tup (as.map V.ref).reverse) p = some (.tup (as.reverse.map V.ref)) := by rw [upd_same, List.map_reverse]
    generalize upd H p (.tup (as.map V.ref).reverse) = H1 at *
    refine lc_grow (plain_T (K := K) (a := p) (xs := as.reverse.map V.ref)) (fun acc H' => ∃ bs : List Addr, acc = bs.map V.ref ∧ bs.length ≤ rows.length ∧ ∀ (i : Nat) (b : Addr) (z : List Int), bs[i]? = some b → (rows.reverse.map (rowI B))[i]? = some z → SqT K H' b (iV z)) hD
      (by rw [List.length_map, List.length_reverse, h2]; exact Nat.le_trans h3 (by decide)) (fun H' s => Same.sqT s (.inl (.inl g1))) (fun _ _ => ⟨[], rfl, Nat.zero_le _, fun i b z e => nomatch e⟩) ?_ ?_ ?_
    · rintro acc l H2 H3 hl o ⟨bs, e1, e2, e3⟩
      exact ⟨bs, e1, e2, fun i b z z1 z2 => o.sqT hl (e3 i b z z1 z2)⟩
    · rintro i y acc H2 Q' hy s hl ⟨bs, e1, e2, e3⟩ k
      rw [List.getElem?_map] at hy
      obtain ⟨c, hc, rfl⟩ := Option.map_eq_some_iff.mp hy
      have lt : i < rows.length := by
        have := (List.getElem?_eq_some_iff.mp hc).1
        rw [List.length_reverse, h2] at this
        exact this
      have hl2 : bs.length = i := by rw [e1, List.length_map] at hl; exact hl
      have er : rows.reverse[i]? = some rows[rows.length - 1 - i] := by
        rw [List.getElem?_reverse lt]
        exact List.getElem?_eq_getElem _
      have ec : as[rows.length - 1 - i]? = some c := by
        rw [List.getElem?_reverse (by rw [h2]; exact lt), h2] at hc
        exact hc
      have hq := h4 _ c _ ec (List.getElem?_eq_getElem (show rows.length - 1 - i < rows.length by omega))
      have l6 : (rows[rows.length - 1 - i]).length = 6 := h5 _ (List.getElem_mem _)
      generalize rows[rows.length - 1 - i] = r at *
      have hq2 := Same.sqT (s1.trans s) hq
      have step : ∀ (b : Addr) (H3 : Hp), Same H2 H3 → SqT K H3 b (iV (rowI B r)) → Q' (.ref b) H3 := fun b H3 s3 hb => by
        refine k _ _ s3 ⟨bs ++ [b], by simp [e1], by simp; omega, fun j d z z1 z2 => ?_⟩
        by_cases e : j = i
        · subst e
          rw [List.getElem?_append_right (by omega), hl2] at z1
          simp at z1
          subst z1
          rw [List.getElem?_map, er] at z2
          cases z2
          exact hb
        · have : j < bs.length := by
            have := (List.getElem?_eq_some_iff.mp z1).1
            simp at this
            omega
          rw [List.getElem?_append_left this] at z1
          exact Same.sqT s3 (e3 j d z z1 z2)
      walk_at "1"
      refine ⟨c, _, rfl, .inr hq2, rfl, flat_pvs r, _, rfl, ?_⟩
      rw [if_neg (show ¬ false = true by decide), in_nons]
      by_cases nb : r.contains none = true
      · rw [if_pos nb]
        refine tLc_inT ⟨.ref c, rfl, c, rfl, ⟨_, hq2⟩, fun D2 hD2 => ?_⟩
        refine lc_grow (plain_T (K := K) (a := c) (xs := r.map pV)) (fun acc _ => acc = ((rowI B r).take acc.length).map V.int) hD2 (by
            rw [List.length_map, l6]; decide) (fun H' s => Same.sqT s hq2) (fun _ _ => rfl) (fun _ _ _ _ _ _ z => z) ?_ ?_
        · rintro j z acc H3 Q3 hz s3 hl3 e3' k3
          rw [List.getElem?_map] at hz
          obtain ⟨o, ho, rfl⟩ := Option.map_eq_some_iff.mp hz
          have fin : ∀ v, v = V.int (o.getD B) → Q3 v H3 := fun v ev => by
            subst ev
            refine k3 _ H3 (Same.refl _) ?_
            have lo := (List.getElem?_eq_some_iff.mp ho).1
            have lr : j < (rowI B r).length := by unfold rowI; rw [List.length_map]; exact lo
            have e4 : acc = ((rowI B r).take j).map V.int := by rw [hl3] at e3'; exact e3'
            have : (rowI B r)[j] = o.getD B := by
              have e5 : (rowI B r)[j]? = some (o.getD B) := by
                unfold rowI
                rw [List.getElem?_map, ho]
                rfl
              exact (List.getElem?_eq_some_iff.mp e5).2
            rw [List.length_append, List.length_singleton, hl3, List.take_succ_eq_append_getElem lr, List.map_append, this, ← e4]
            rfl
          walk_at "1"
          cases o with
          | none => exact fin _ rfl
          | some i => exact fin _ rfl
        · rintro acc H3 hl3 s3 gD2 e3'
          rw [List.length_map, l6] at hl3
          rw [hl3, List.take_of_length_le (by unfold rowI; rw [List.length_map, l6]; exact Nat.le_refl _)] at e3'
          subst e3'
          exact ⟨_, .inl ⟨.inl (.inl gD2), fun l hl => step l _ (s3.trans (same_new hl)) (.inl (.inl upd_same))⟩⟩
      · rw [if_neg nb]
        refine step c H2 (Same.refl _) ?_
        rw [show iV (rowI B r) = r.map pV from rowI_full (by simpa using nb)]
        exact hq2
    · rintro acc H2 hl s gD ⟨bs, e1, e2, e3⟩
      subst e1
      rw [List.length_map, List.length_map, List.length_reverse, h2] at hl
      refine q D H2 (s1.trans s) ?_ ⟨bs, gD, by rw [List.length_map, List.length_reverse, hl], e3⟩
      exact s1.free hD
end
end U
namespace U
open PySem PySem.Spec PyProof.Rows L2

/-! ### the reckoning of some rows -/
def colN : Nat → Nat → Nat
  | 0, 1 => 0
  | 0, 2 => 1
  | 1, 0 => 2
  | 1, 2 => 3
  | 2, 0 => 4
  | _, _ => 5
def fnOf (q : List Int) (i j : Nat) : Int := (q[colN i j]?).getD 0
theorem six_fn {q : List Int} (h : q.length = 6) : six (fnOf q) = q := by
  match q, h with
  | [a, b, c, d, e, f], _ => rfl
/-- the levels of the costs from tower to tower, for no crates and so on -/
def levelQ (qs : List (List Int)) (k : Nat) : Nat → Nat → Int := levelN (((qs.take k).map fnOf).reverse)
def towersL (qs : List (List Int)) : List (List Int) := (List.range (qs.length + 1)).map fun k => six (levelQ qs k)
theorem levelQ_succ {qs : List (List Int)} {k : Nat} {q : List Int} (h : qs[k]? = some q) : levelQ qs (k + 1) = stepN (fnOf q) (levelQ qs k) := by
  have lt := (List.getElem?_eq_some_iff.mp h).1
  unfold levelQ
  rw [List.take_succ_eq_append_getElem lt, List.map_append, List.reverse_append, (List.getElem?_eq_some_iff.mp h).2]
  rfl
def priced (rows : List (List (Option Int))) : List Int := rows.flatMap fun r => r.filterMap id
/-- a bound of all prices -/
def Great (rows : List (List (Option Int))) (g : Int) : Prop := 0 < g ∧ g < 10 ^ 33 ∧ ∀ p ∈ priced rows, 0 < p ∧ p ≤ g
/-- the six numbers of the ways back -/
def turnQ (q : List Int) : List Int := six fun i j => fnOf q j i
/-- the numbers of a reckoning -/
def RkN0 (K : PySem.W.Frag) (H : Hp) (a : Addr) (B : Int) (qs : List (List Int)) : Prop := ∃ lp lt : Addr, RkAt K H a B (.ref lp) (.ref lt) ∧ PrB K H lp qs ∧ PrB K H lt (towersL qs)
/-- what a reckoning keeps: nothing yet, or that of the ways back -/
def Bk (K : PySem.W.Frag) (H : Hp) (bk : V) (B : Int) (qs : List (List Int)) : Prop := bk = .non ∨ ∃ b, bk = .ref b ∧ RkN0 K H b B (qs.map turnQ)
def RkO (K : PySem.W.Frag) (H : Hp) (a : Addr) (rows : List (List (Option Int))) : Prop := ∃ (g : Int) (lp lt : Addr), Great rows g ∧ (∃ dx bk, H a = some (.ins (He.ga K "Reckoning") dx (rkF (g * 4 ^ rows.length) (.ref lp) (.ref lt) bk)) ∧ Bk K H bk (g * 4 ^ rows.length) (rows.reverse.map (rowI (g * 4 ^ rows.length)))) ∧ PrB K H lp (rows.reverse.map (rowI (g * 4 ^ rows.length))) ∧ PrB K H lt (towersL (rows.reverse.map (rowI (g * 4 ^ rows.length))))
def PricesOk (rows : List (List (Option Int))) : Prop := ∀ p ∈ priced rows, 0 < p ∧ p < 10 ^ 33
def sp_reckoning_of (K : PySem.W.Frag) : Sp := sp1 fun x H Q _ => ∃ t rows, x = .ref t ∧ RowsT K H t rows ∧ PricesOk rows ∧ ∀ a H', Same H H' → H a = none → RkO K H' a rows → Q (.ref a) H'
def t_reckoning_of (K : PySem.W.Frag) (E : XK) : TS := (tSeq (tAsg (tCKw (rMaxDf K) (tCons (tLc2 (iSeq K (tVar 0)) (gName 6) tYes (iSeq K (tVar 6)) (gName 7) (tTest (tOp uNis (tVar 7) (tC .non))) (tVar 7) [6, 7] [7]) tNil) (tCons (tC (.int 1)) tNil)) (gName 1)) (tSeq (tAsg (tOp uShl (tVar 1) (tOp uMul (tC (.int 2)) (tCB (uLen K) (tCons (tVar 0) tNil)))) (gName 2)) (tSeq (tAsg (tFn (sp_without_bars K) E (tCons (tVar 0) (tCons (tVar 2) tNil))) (gName 3)) (tSeq (tAsg (tLst (tCons (tTup (tCons (tC (.int 0)) (tCons (tC (.int 0)) (tCons (tC (.int 0)) (tCons (tC (.int 0)) (tCons (tC (.int 0)) (tCons (tC (.int 0)) tNil))))))) tNil)) (gName 4)) (tSeq (tFor (iSeq K (tVar 3)) (gName 5) (tDrop (tBM K "list" rAppend (tVar 4) (tCons (tFn (sp_towers_above K) E (tCons (tVar 5) (tCons (tOp (uIx K) (tVar 4) (tUn (rU fun i => .int (-i)) (tC (.int 1)))) tNil))) tNil)))) (tRet (tMake (He.ga K "Reckoning") (sp_Reckoning_init K) [] E (tCons (tVar 2) (tCons (tVar 3) (tCons (tVar 4) tNil))))))))))
section
variable {K : PySem.W.Frag} (F : KF K) (R : KR K) {vs : List V} {H : Hp} {Q : VK} {E : XK}
local macro_rules | `(tactic| walk_at "w") => `(tactic| try simp only [turnE, lcT, Snoc, tRet, tRetN, tAndV, tOrV, tNotV, tCB, tCons, tVar, tNil, tC, tOp, tSeq, tAsg, gName, gSub, tIfS, tDrop, tFn, tTup, tLst, tNext, tB, tTest, tNot, tAnd, tOr, tIf, tChain, tUn, rU, tFld, tPart, tNoPart, L2.tSl, tBM, tPar, tPar3, tTruth, tDNewK,
  L2.start, List.map_cons, List.map_nil, List.length_cons, List.length_nil, List.replicate_succ, List.replicate_zero, List.append_nil, List.nil_append, List.cons_append, List.singleton_append, Nat.sub_self, Nat.zero_add, Nat.reduceAdd, Nat.reduceSub,
  List.getElem?_cons_zero, List.getElem?_cons_succ, List.set_cons_zero, List.set_cons_succ, Option.some.injEq, exists_eq_left, exists_eq_left', V.int.injEq, V.bl.injEq, V.str.injEq, V.ref.injEq,
  uAdd_int, uAdd_str, uSub_int, uMul_int, uMul_str, uDiv_int, uMod_int, uPow_int, uLt_int, uLe_int, uGt_int, uGe_int, uIs_non, uNis_non, uIs_bl, uNis_bl, sp1, sp2, sp3, sp4, uEq_int, uEq_str, uNe_int, uNe_str, uSl_str, uLen_str, decide_eq_true_eq])
local macro_rules | `(tactic| walk_at "1") => `(tactic| try simp only [turnE, lcT, Snoc, tRet, tRetN, tAndV, tOrV, tNotV, tCB, tCons, tVar, tNil, tC, tOp, tAsg, gName, gSub, tIfS, tDrop, tFn, tTup, tLst, tNext, tB, tTest, tNot, tAnd, tOr, tIf, tChain, tUn, rU, tFld, tPart, tNoPart, L2.tSl, tBM, tPar, tPar3, tTruth, tDNewK,
  L2.start, List.map_cons, List.map_nil, List.length_cons, List.length_nil, List.replicate_succ, List.replicate_zero, List.append_nil, List.nil_append, List.cons_append, List.singleton_append, Nat.sub_self, Nat.zero_add, Nat.reduceAdd, Nat.reduceSub,
  List.getElem?_cons_zero, List.getElem?_cons_succ, List.set_cons_zero, List.set_cons_succ, Option.some.injEq, exists_eq_left, exists_eq_left', V.int.injEq, V.bl.injEq, V.str.injEq, V.ref.injEq,
  uAdd_int, uAdd_str, uSub_int, uMul_int, uMul_str, uDiv_int, uMod_int, uPow_int, uLt_int, uLe_int, uGt_int, uGe_int, uIs_non, uNis_non, uIs_bl, uNis_bl, sp1, sp2, sp3, sp4, uEq_int, uEq_str, uNe_int, uNe_str, uSl_str, uLen_str, decide_eq_true_eq])
local macro_rules | `(tactic| walk_at "s") => `(tactic| ((try dsimp only [turnE]); with_reducible refine seq_ ?_))

/-- the list of the prices that are no bars -/
theorem priced_of {t D : Addr} {rows : List (List (Option Int))} {x0 x1 x2 x3 x4 x5 : Option V} {Q : Hp → Prop} {as : List Addr} (h1 : SqT K H t (as.map V.ref)) (h2 : as.length = rows.length) (h3 : rows.length ≤ 60) (h4 : ∀ (i : Nat) (a : Addr) (r : List (Option Int)), as[i]? = some a → rows[i]? = some r → SqT K H a (r.map pV)) (h5 : ∀ r ∈ rows, r.length = 6) (hD : H D = none)
    (q : ∀ H', Same H H' → H' D = some (.lst ((priced rows).map V.int)) → Q H') :
    Laps (Itt K t) (upd H D (.lst [])) Q fun x H' N => lc2T (gName 6) tYes (iSeq K (tVar 6)) (gName 7) (tTest (tOp uNis (tVar 7) (tC .non))) (tVar 7) [6, 7] [7] [x0, x1, x2, x3, x4, x5, none, none] D N x H' := by
  have lenP : ∀ l : List (List (Option Int)), (∀ r ∈ l, r.length = 6) → (priced l).length ≤ 6 * l.length := by
    intro l
    induction l with
    | nil => intro _; exact Nat.le_refl _
    | cons r s ih =>
      intro h
      have := ih fun x m => h x (List.mem_cons_of_mem _ m)
      have h6 := h r List.mem_cons_self
      have := List.length_filterMap_le id r
      unfold priced at *
      rw [List.flatMap_cons, List.length_append, List.length_cons]
      omega
  refine it_plain (plain_T (K := K) (a := t) (xs := as.map V.ref)) (fun i H' => Same H H' ∧ H' D = some (.lst ((priced (rows.take i)).map V.int))) ⟨same_new hD, upd_same⟩ (fun i H' z => Same.sqT z.1 h1) ?_ ?_
  · rintro i x H2 hx ⟨s2, gD⟩
    rw [List.getElem?_map] at hx
    obtain ⟨a, ha, rfl⟩ := Option.map_eq_some_iff.mp hx
    have lt : i < rows.length := by rw [← h2]; exact (List.getElem?_eq_some_iff.mp ha).1
    have hr : rows[i]? = some rows[i] := List.getElem?_eq_getElem lt
    have ht := Same.sqT s2 (h4 i a _ ha hr)
    have l6 := h5 _ (List.getElem_mem lt)
    have few : (priced (rows.take i)).length ≤ 360 := by
      have := lenP (rows.take i) fun r m => h5 r (List.mem_of_mem_take m)
      rw [List.length_take] at this
      omega
    have grow : priced (rows.take (i + 1)) = priced (rows.take i) ++ (rows[i]).filterMap id := by
      unfold priced
      rw [List.take_succ_eq_append_getElem lt, List.flatMap_append, List.flatMap_cons, List.flatMap_nil, List.append_nil]
    generalize rows[i] = r at *
    generalize priced (rows.take i) = ps at *
    unfold lc2T
    refine ⟨rfl, ?_⟩
    unfold tYes
    dsimp only
    rw [if_pos rfl]
    refine .inr ⟨.ref a, rfl, a, rfl, ⟨_, ht⟩, ?_⟩
    refine it_plain (plain_T (K := K) (a := a) (xs := r.map pV)) (fun j H' => Same H H' ∧ H' D = some (.lst ((ps ++ (r.take j).filterMap id).map V.int)) ∧ SqT K H' a (r.map pV)) ⟨s2, by rw [List.take_zero]; simpa using gD, ht⟩ (fun j H' z => z.2.2) ?_ ?_
    · rintro j y H3 hy ⟨s3, gD3, ht3⟩
      rw [List.getElem?_map] at hy
      obtain ⟨o, ho, rfl⟩ := Option.map_eq_some_iff.mp hy
      have lo := (List.getElem?_eq_some_iff.mp ho).1
      have et : (r.take (j + 1)).filterMap id = (r.take j).filterMap id ++ [o].filterMap id := by
        rw [List.take_succ_eq_append_getElem lo, List.filterMap_append, (List.getElem?_eq_some_iff.mp ho).2]
      have fewJ : ((r.take j).filterMap id).length ≤ 6 := by
        have := List.length_filterMap_le id (r.take j)
        rw [List.length_take] at this
        omega
      rw [et]
      unfold lc3T
      refine ⟨rfl, ?_⟩
      cases o with
      | none =>
        refine ⟨_, rfl, ?_⟩
        simp only [tC, uNis, pV]
        refine ⟨_, rfl, ?_⟩
        rw [if_neg (by decide)]
        exact ⟨s3, by rw [show ([none] : List (Option Int)).filterMap id = [] from rfl, List.append_nil]; exact gD3, ht3⟩
      | some i =>
        refine ⟨_, rfl, ?_⟩
        simp only [tC, uNis, pV]
        refine ⟨_, rfl, ?_⟩
        rw [if_pos (by simp)]
        refine ⟨_, rfl, _, gD3, ?_, ?_⟩
        · rw [List.length_map, List.length_append, sizeLine_eq]
          omega
        · refine ⟨(Off.trans (Same.off s3) off_upd).same hD, ?_, ?_⟩
          · rw [upd_same, show ([some i] : List (Option Int)).filterMap id = [i] from rfl, ← List.append_assoc, List.map_append, List.map_append, List.map_append]
            rfl
          · exact Off.sqT off_upd gD3 ht3
    · rintro H3 ⟨s3, gD3, _⟩
      rw [List.length_map, l6, List.take_of_length_le (by rw [l6]; exact Nat.le_refl _)] at gD3
      exact ⟨s3, by rw [grow]; exact gD3⟩
  · rintro H2 ⟨s2, gD⟩
    rw [List.length_map, h2, List.take_length] at gD
    exact q H2 s2 gD
theorem max_great {D : Addr} {rows : List (List (Option Int))} (hD : H D = some (.lst ((priced rows).map V.int))) (ok : PricesOk rows) (q : ∀ g, Great rows g → Q (.int g) H) : rMaxDf K [.ref D] [.int 1] H Q :=
  ⟨D, priced rows, .int 1, rfl, rfl, .inl (.inl hD), fun e => q 1 ⟨by decide, by decide, fun p m => by rw [e] at m; cases m⟩, fun m hm hle => q m ⟨(ok m hm).1, (ok m hm).2, fun p mp => ⟨(ok p mp).1, hle p mp⟩⟩⟩
theorem tFor_seqL {t : TE} {g : TG} {tb : TS} {D : Ends} {σ : L2.St} (h : t σ H fun x H1 => ∃ a, x = .ref a ∧ (∃ xs, SqL K H1 a xs) ∧ tFor (fun _ H' R => R (Itl K a) H') g tb D σ H1) : tFor (iSeq K t) g tb D σ H := .inl h
theorem at_end {xs : List V} {v : V} {n : Nat} (h : xs.length = n + 1) (e : xs[n]? = some v) : atI xs (-1) = some v := by
  unfold atI ixN
  rw [h, if_neg (by decide), if_pos (by omega)]
  show xs[((n + 1 : Nat) + (-1) : Int).toNat]? = some v
  rw [show ((n + 1 : Nat) + (-1) : Int).toNat = n by omega]
  exact e
theorem pow_4 (n : Nat) : (2 : Int) ^ (2 * (n : Int)).toNat = 4 ^ n := by
  rw [show (2 * (n : Int)).toNat = 2 * n by omega, Int.pow_mul]
  rfl
include F R in
theorem read_reckoning_of (h : sp_reckoning_of K vs H Q E) : t_reckoning_of K E { nx := fun _ H' => Q .non H', rt := Q } (start ["rows", "greatest", "bound", "prices", "towers", "six", "row", "price"] vs) H := by
  match vs, h with
  | [_], ⟨t, rows, rfl, ⟨as, h1, h2, h3, h4, h5⟩, ok, q⟩ =>
    unfold t_reckoning_of
    walk_at "s"
    simp only [tCKw, tAsg]
    refine tLc2_of ?_
    refine .inr ⟨.ref t, rfl, t, rfl, ⟨_, h1⟩, fun D hD => ?_⟩
    refine priced_of h1 h2 h3 h4 h5 hD fun H1 s1 gD => ?_
    walk_at "1"
    refine max_great gD ok fun g hg => ?_
    have hn : (as.map V.ref).length = rows.length := by rw [List.length_map, h2]
    walk_at "s"
    walk_at "1"
    refine uLen_seq (.inr (Same.sqT s1 h1)) ?_
    walk_at "1"
    rw [hn]
    have gA : g.natAbs < 10 ^ 33 := by
      have := hg.1
      have := hg.2.1
      omega
    refine ⟨.inl (by decide), cshl_of (j := 2 * rows.length) gA (by omega), ?_⟩
    dsimp only
    rw [show ((2 * (rows.length : Int)).toNat) = (2 * (rows.length : Int)).toNat from rfl, pow_4]
    walk_at "s"
    walk_at "1"
    refine ⟨t, rows, _, rfl, rfl, ⟨as, Same.sqT s1 h1, h2, h3, fun i a r z1 z2 => Same.sqT s1 (h4 i a r z1 z2), h5⟩, fun lp H2 s2 np pr => ?_⟩
    walk_at "s"
    walk_at "1"
    refine ⟨by decide, fun z nz => ⟨by decide, fun lt nt => ?_⟩⟩
    have s3 : Same H2 (upd H2 z (.tup (iV [0, 0, 0, 0, 0, 0]))) := same_new nz
    have gz : upd H2 z (.tup (iV [0, 0, 0, 0, 0, 0])) z = some (.tup (iV [0, 0, 0, 0, 0, 0])) := upd_same
    change upd H2 z (.tup (iV [0, 0, 0, 0, 0, 0])) lt = none at nt
    show tSeq _ _ _ _ (upd (upd H2 z (.tup (iV [0, 0, 0, 0, 0, 0]))) lt (.lst [.ref z]))
    generalize upd H2 z (.tup (iV [0, 0, 0, 0, 0, 0])) = H3 at *
    have s4 : Same H3 (upd H3 lt (.lst [.ref z])) := same_new nt
    have gl : upd H3 lt (.lst [.ref z]) lt = some (.lst [.ref z]) := upd_same
    generalize upd H3 lt (.lst [.ref z]) = H4 at *
    generalize hB : g * 4 ^ rows.length = B at *
    generalize hqs : rows.reverse.map (rowI B) = qs at *
    have lq : qs.length = rows.length := by rw [← hqs, List.length_map, List.length_reverse]
    have l6 : ∀ q ∈ qs, q.length = 6 := fun x m => by
      rw [← hqs] at m
      obtain ⟨r, mr, rfl⟩ := List.mem_map.mp m
      unfold rowI
      rw [List.length_map]
      exact h5 r (List.mem_reverse.mp mr)
    have pr3 := pr.same s3
    obtain ⟨bs, p1, p2, p3⟩ := id pr3
    walk_at "s"
    refine tFor_seqL ?_
    refine ⟨.ref lp, rfl, lp, rfl, ⟨_, .inl (.inl (s4 _ _ p1))⟩, ?_⟩
    refine for_plain (plain_L (K := K) (a := lp) (xs := bs.map V.ref)) (fun R r => r)
      (fun i τ H' => (∃ o5, τ = [some (.ref t), some (.int g), some (.int B), some (.ref lp), some (.ref lt), o5, none, none]) ∧ Same H3 H' ∧ ∃ cs : List Addr, H' lt = some (.lst (cs.map V.ref)) ∧ cs.length = i + 1 ∧ ∀ (j : Nat) (c : Addr), cs[j]? = some c → SqT K H' c (iV (six (levelQ qs j))))
      ⟨⟨_, rfl⟩, s4, [z], gl, rfl, fun j c e => ?_⟩ (fun i τ H' z => .inl (.inl (z.2.1 _ _ p1))) ?_ ?_
    · match j, e with
      | 0, e =>
        cases e
        exact .inl (.inl (s4 _ _ gz))
    · rintro i x τ H5 hx ⟨⟨o5, rfl⟩, s5, cs, k1, k2, k3⟩
      rw [List.getElem?_map] at hx
      obtain ⟨c, hc, rfl⟩ := Option.map_eq_some_iff.mp hx
      have lt' : i < qs.length := by rw [← p2]; exact (List.getElem?_eq_some_iff.mp hc).1
      have hq : qs[i]? = some qs[i] := List.getElem?_eq_getElem lt'
      have tq := Same.sqT s5 (p3 i c _ hc hq)
      have m6 := l6 _ (List.getElem_mem lt')
      have next := levelQ_succ hq
      generalize qs[i] = w at *
      obtain ⟨d, hd⟩ : ∃ d, cs[i]? = some d := ⟨_, List.getElem?_eq_getElem (by omega)⟩
      simp only [gName, List.set_cons_zero, List.set_cons_succ]
      walk_at "1"
      refine ⟨Or.inl ⟨rfl, _, .inl (.inl k1)⟩, ?_⟩
      refine ⟨_, .ref d, .inl (.inl (.inl k1)), at_end (n := i) (by rw [List.length_map, k2]) (by rw [List.getElem?_map, hd]; rfl), ?_⟩
      refine ⟨c, d, fnOf w, levelQ qs i, rfl, rfl, by rw [six_fn m6]; exact tq, k3 i d hd, fun r H6 s6 nr gr => ?_⟩
      refine ⟨lt, _, .ref r, rfl, rfl, s6 _ _ k1, by rw [List.length_map, k2, sizeLine_eq]; omega, ?_⟩
      have k1' := s6 _ _ k1
      have nrl : r ≠ lt := by rintro rfl; rw [k1] at nr; cases nr
      have o7 : Off lt H6 (upd H6 lt (.lst (cs.map V.ref ++ [.ref r]))) := off_upd
      refine ⟨⟨_, rfl⟩, (Off.trans (Same.off (s5.trans s6)) o7).same nt, cs ++ [r], by rw [upd_same, List.map_append]; rfl, by rw [List.length_append, k2]; rfl, fun j c2 e => ?_⟩
      by_cases lj : j < cs.length
      · rw [List.getElem?_append_left lj] at e
        exact o7.sqT k1' (Same.sqT s6 (k3 j c2 e))
      · have ej : j = i + 1 := by
          have := (List.getElem?_eq_some_iff.mp e).1
          rw [List.length_append, List.length_singleton] at this
          omega
        subst ej
        rw [List.getElem?_append_right (by omega), k2, Nat.sub_self] at e
        cases e
        rw [next]
        exact o7.sqT k1' (.inl (.inl gr))
    · rintro τ H5 ⟨⟨o5, rfl⟩, s5, cs, k1, k2, k3⟩
      walk_at "1"
      refine ⟨_, rfl, _, rfl, _, rfl, fun y dy ny nd ne => ?_⟩
      have s6 : Same H5 (upd (upd H5 dy (.own y)) y (.ins (He.ga K "Reckoning") dy [])) := fun b o e => by
        rw [upd_ne (ne_of_none e ny), upd_ne (ne_of_none e nd)]
        exact e
      have gy : upd (upd H5 dy (.own y)) y (.ins (He.ga K "Reckoning") dy []) y = some (.ins (He.ga K "Reckoning") dy []) := upd_same
      generalize upd (upd H5 dy (.own y)) y (.ins (He.ga K "Reckoning") dy []) = H6 at *
      refine ⟨y, dy, B, rfl, rfl, gy, fun H7 o7 g7 => ⟨rfl, ?_⟩⟩
      have s57 : Same H5 H7 := (Off.trans (Same.off s6) o7).same ny
      have s15 := s1.trans (s2.trans (s3.trans s5))
      refine q y H7 (s15.trans s57) (s15.free ny) ⟨g, lp, lt, hg, ?_, ?_, ?_⟩
      · rw [hB]
        exact ⟨dy, _, g7, .inl rfl⟩
      · rw [hB, hqs]
        exact pr3.same (s5.trans s57)
      · rw [hB, hqs]
        have lt2 : cs.length = qs.length + 1 := by rw [k2, List.length_map, p2]
        refine ⟨cs, s57 _ _ k1, ?_, fun i b w z1 z2 => ?_⟩
        · unfold towersL
          rw [List.length_map, List.length_range, lt2]
        · unfold towersL at z2
          rw [List.getElem?_map] at z2
          obtain ⟨k, hk, rfl⟩ := Option.map_eq_some_iff.mp z2
          have ek : k = i := by
            have := (List.getElem?_eq_some_iff.mp hk).2
            rw [List.getElem_range] at this
            exact this.symm
          subst ek
          exact Same.sqT s57 (k3 k b z1)
end
end U
namespace U
open PySem PySem.Spec PyProof.Rows L2

/-! ### a yard and its reckoning -/
/-- what a yard keeps: nothing yet, or its reckoning -/
def Kept (K : PySem.W.Frag) (H : Hp) (rows : List (List (Option Int))) (rk : V) : Prop := rk = .non ∨ ∃ a, rk = .ref a ∧ RkO K H a rows
/-- a yard as its maker left it, or as its reckoning left it -/
def YdK (K : PySem.W.Frag) (H : Hp) (y : Addr) (rows : List (List (Option Int))) : Prop := Yd K H y rows ∧ PricesOk rows ∧ ∃ dx t rk, H y = some (.ins (He.ga K "Yard") dx [("_rows", .ref t), ("_reckoning", rk)]) ∧ Kept K H rows rk
/-- a yard keeps this reckoning -/
def YdR (K : PySem.W.Frag) (H : Hp) (y a : Addr) : Prop := ∃ dx t, H y = some (.ins (He.ga K "Yard") dx [("_rows", .ref t), ("_reckoning", .ref a)])
def sp_Yard_reckoning (K : PySem.W.Frag) : Sp := sp1 fun x H Q _ => ∃ y rows, x = .ref y ∧ YdK K H y rows ∧ ∀ a H', Off y H H' → YdK K H' y rows → RkO K H' a rows → YdR K H' y a → (YdR K H y a ∨ H a = none) → Q (.ref a) H'
def t_Yard_reckoning (K : PySem.W.Frag) (E : XK) : TS := (tSeq (tIfS (tTest (tOp uIs (tFld K (tVar 0) "_reckoning") (tC .non))) (sFld K (tVar 0) (tFn (sp_reckoning_of K) E (tCons (tFld K (tVar 0) "_rows") tNil)) "_reckoning") tNext) (tRet (tFld K (tVar 0) "_reckoning")))
section
variable {K : PySem.W.Frag} (F : KF K) (R : KR K) {vs : List V} {H : Hp} {Q : VK} {E : XK}
local macro_rules | `(tactic| walk_at "w") => `(tactic| try simp only [turnE, lcT, Snoc, tRet, tRetN, tAndV, tOrV, tNotV, tCB, tCons, tVar, tNil, tC, tOp, tSeq, tAsg, gName, gSub, tIfS, tDrop, tFn, tTup, tLst, tNext, tB, tTest, tNot, tAnd, tOr, tIf, tChain, tUn, rU, tFld, tPart, tNoPart, L2.tSl, tBM, tPar, tPar3, tTruth, tDNewK,
  L2.start, List.map_cons, List.map_nil, List.length_cons, List.length_nil, List.replicate_succ, List.replicate_zero, List.append_nil, List.nil_append, List.cons_append, List.singleton_append, Nat.sub_self, Nat.zero_add, Nat.reduceAdd, Nat.reduceSub,
  List.getElem?_cons_zero, List.getElem?_cons_succ, List.set_cons_zero, List.set_cons_succ, Option.some.injEq, exists_eq_left, exists_eq_left', V.int.injEq, V.bl.injEq, V.str.injEq, V.ref.injEq,
  uAdd_int, uAdd_str, uSub_int, uMul_int, uMul_str, uDiv_int, uMod_int, uPow_int, uLt_int, uLe_int, uGt_int, uGe_int, uIs_non, uNis_non, uIs_bl, uNis_bl, sp1, sp2, sp3, sp4, uEq_int, uEq_str, uNe_int, uNe_str, uSl_str, uLen_str, decide_eq_true_eq])
local macro_rules | `(tactic| walk_at "1") => `(tactic| try simp only [turnE, lcT, Snoc, tRet, tRetN, tAndV, tOrV, tNotV, tCB, tCons, tVar, tNil, tC, tOp, tAsg, gName, gSub, tIfS, tDrop, tFn, tTup, tLst, tNext, tB, tTest, tNot, tAnd, tOr, tIf, tChain, tUn, rU, tFld, tPart, tNoPart, L2.tSl, tBM, tPar, tPar3, tTruth, tDNewK,
  L2.start, List.map_cons, List.map_nil, List.length_cons, List.length_nil, List.replicate_succ, List.replicate_zero, List.append_nil, List.nil_append, List.cons_append, List.singleton_append, Nat.sub_self, Nat.zero_add, Nat.reduceAdd, Nat.reduceSub,
  List.getElem?_cons_zero, List.getElem?_cons_succ, List.set_cons_zero, List.set_cons_succ, Option.some.injEq, exists_eq_left, exists_eq_left', V.int.injEq, V.bl.injEq, V.str.injEq, V.ref.injEq,
  uAdd_int, uAdd_str, uSub_int, uMul_int, uMul_str, uDiv_int, uMod_int, uPow_int, uLt_int, uLe_int, uGt_int, uGe_int, uIs_non, uNis_non, uIs_bl, uNis_bl, sp1, sp2, sp3, sp4, uEq_int, uEq_str, uNe_int, uNe_str, uSl_str, uLen_str, decide_eq_true_eq])
local macro_rules | `(tactic| walk_at "s") => `(tactic| ((try dsimp only [turnE]); with_reducible refine seq_ ?_))

theorem RkN0.same {H' : Hp} {a : Addr} {B : Int} {qs : List (List Int)} (e : Same H H') (h : RkN0 K H a B qs) : RkN0 K H' a B qs := by
  obtain ⟨lp, lt, ⟨dx, bk, ha⟩, p1, p2⟩ := h
  exact ⟨lp, lt, ⟨dx, bk, e _ _ ha⟩, p1.same e, p2.same e⟩
theorem Bk.same {H' : Hp} {bk : V} {B : Int} {qs : List (List Int)} (e : Same H H') (h : Bk K H bk B qs) : Bk K H' bk B qs := h.imp id fun ⟨b, z, r⟩ => ⟨b, z, r.same e⟩
theorem RkO.same {H' : Hp} {a : Addr} {rows : List (List (Option Int))} (e : Same H H') (h : RkO K H a rows) : RkO K H' a rows := by
  obtain ⟨g, lp, lt, hg, ⟨dx, bk, ha, kb⟩, p1, p2⟩ := h
  exact ⟨g, lp, lt, hg, ⟨dx, bk, e _ _ ha, kb.same e⟩, p1.same e, p2.same e⟩
theorem PrB.off {H' : Hp} {y l C dx : Addr} {fs : List (Str × V)} {qs : List (List Int)} (e : Off y H H') (hy : H y = some (.ins C dx fs)) (h : PrB K H l qs) : PrB K H' l qs := by
  obtain ⟨bs, h1, h2, h3⟩ := h
  exact ⟨bs, e _ _ (by rintro rfl; rw [hy] at h1; cases h1) h1, h2, fun i b q z1 z2 => e.sqT_ins hy (h3 i b q z1 z2)⟩
theorem RkN0.off {H' : Hp} {y a dx : Addr} {fs : List (Str × V)} {B : Int} {qs : List (List Int)} (ne : He.ga K "Yard" ≠ He.ga K "Reckoning") (e : Off y H H') (hy : H y = some (.ins (He.ga K "Yard") dx fs)) (h : RkN0 K H a B qs) : RkN0 K H' a B qs := by
  obtain ⟨lp, lt, ⟨d2, bk, ha⟩, p1, p2⟩ := h
  refine ⟨lp, lt, ⟨d2, bk, e _ _ ?_ ha⟩, p1.off e hy, p2.off e hy⟩
  rintro rfl
  rw [hy] at ha
  injection ha with ha
  injection ha with h1
  exact ne h1
theorem RkO.off {H' : Hp} {y a dx : Addr} {fs : List (Str × V)} {rows : List (List (Option Int))} (ne : He.ga K "Yard" ≠ He.ga K "Reckoning") (e : Off y H H') (hy : H y = some (.ins (He.ga K "Yard") dx fs)) (h : RkO K H a rows) : RkO K H' a rows := by
  obtain ⟨g, lp, lt, hg, ⟨d2, bk, ha, kb⟩, p1, p2⟩ := h
  refine ⟨g, lp, lt, hg, ⟨d2, bk, e _ _ ?_ ha, kb.imp id fun ⟨b, z, r⟩ => ⟨b, z, r.off ne e hy⟩⟩, p1.off e hy, p2.off e hy⟩
  rintro rfl
  rw [hy] at ha
  injection ha with ha
  injection ha with h1
  exact ne h1
include F R in
theorem read_Yard_reckoning (h : sp_Yard_reckoning K vs H Q E) : t_Yard_reckoning K E { nx := fun _ H' => Q .non H', rt := Q } (start ["self"] vs) H := by
  match vs, h with
  | [_], ⟨y, rows, rfl, ⟨hy, ok, dx, t, rk, gy, hk⟩, q⟩ =>
    unfold t_Yard_reckoning
    walk_at "s"
    walk_at "1"
    refine ⟨y, _, dx, _, rk, rfl, gy, F.cl, F.na2, rfl, ?_⟩
    rcases hk with rfl | ⟨a, rfl, ra⟩
    · rw [if_pos rfl]
      simp only [sFld]
      walk_at "1"
      refine ⟨y, _, dx, _, .ref t, rfl, gy, F.cl, F.na, rfl, ?_⟩
      obtain ⟨dx0, t0, as, ⟨rk0, y1⟩, y2, y3, y4, y5, y6, y7⟩ := id hy
      obtain ⟨rfl, rfl, rfl⟩ : dx = dx0 ∧ t = t0 ∧ V.non = rk0 := by
        rw [gy] at y1
        injection y1 with y1
        injection y1 with _ e1 e2
        simp at e2
        exact ⟨e1, e2.1, e2.2⟩
      refine ⟨t, rows, rfl, ⟨as, y2, y3, y4, y6, fun r m => (y7 r m).1⟩, ok, fun a H1 s1 na ra => ?_⟩
      refine ⟨y, _, dx, _, rfl, s1 _ _ gy, F.cl, F.na2, by show (2 : Nat) < 1000; decide, ?_⟩
      have ep : putF "_reckoning" (.ref a) ([("_rows", .ref t), ("_reckoning", .non)] : List (Str × V)) = ([("_rows", .ref t), ("_reckoning", .ref a)] : List (Str × V)) := rfl
      rw [ep]
      have gy1 := s1 _ _ gy
      have o2 : Off y H1 (upd H1 y (.ins (He.ga K "Yard") dx [("_rows", .ref t), ("_reckoning", .ref a)])) := off_upd
      have g2 : upd H1 y (.ins (He.ga K "Yard") dx [("_rows", .ref t), ("_reckoning", .ref a)]) y = some (.ins (He.ga K "Yard") dx [("_rows", .ref t), ("_reckoning", .ref a)]) := upd_same
      generalize upd H1 y (.ins (He.ga K "Yard") dx [("_rows", .ref t), ("_reckoning", .ref a)]) = H2 at *
      refine ⟨y, _, dx, _, .ref a, rfl, g2, F.cl, F.na2, rfl, ?_⟩
      have ra2 := ra.off R.ne o2 gy1
      refine q a H2 (Off.trans (Same.off s1) o2) ⟨⟨dx, t, as, ⟨_, g2⟩, o2.sqT_ins gy1 (Same.sqT s1 y2), y3, y4, y5, fun i b r z1 z2 => o2.sqT_ins gy1 (Same.sqT s1 (y6 i b r z1 z2)), y7⟩, ok, dx, t, _, g2, .inr ⟨a, rfl, ra2⟩⟩ ra2 ⟨dx, t, g2⟩ (.inr na)
    · rw [if_neg (by simp)]
      refine ⟨y, _, dx, _, .ref a, rfl, gy, F.cl, F.na2, rfl, ?_⟩
      exact q a H Off.refl ⟨hy, ok, dx, t, _, gy, .inr ⟨a, rfl, ra⟩⟩ ra ⟨dx, t, gy⟩ (.inl ⟨dx, t, gy⟩)
end
end U
namespace U
open PySem PySem.Spec PyProof.Rows L2

/-! ### tables and costs from tower to tower -/
/-- prices by two places -/
def prF (r : List (Option Int)) (i j : Nat) : Option Int := (r[colN i j]?).getD none
/-- the least costs from tower to tower of the k smallest crates -/
def towO (rows : List (List (Option Int))) (k : Nat) : Nat → Nat → Option Int := levelO (((rows.reverse.take k).map prF).reverse)
theorem levelQ_stands {rows : List (List (Option Int))} {g : Int} (hg : Great rows g) (h6 : ∀ r ∈ rows, r.length = 6) : ∀ k, k ≤ rows.length → ∀ i j, i < 3 → j < 3 → i ≠ j → Stands (g * 4 ^ rows.length) (mostN g k) (towO rows k i j) (levelQ (rows.reverse.map (rowI (g * 4 ^ rows.length))) k i j) := by
  intro k
  induction k with
  | zero =>
    intro _ i j _ _ _
    exact ⟨rfl, Int.le_refl _, Int.le_refl _⟩
  | succ k ih =>
    intro hk
    have ih := ih (by omega)
    have lt : k < rows.reverse.length := by rw [List.length_reverse]; omega
    have pos : (0 : Int) ≤ g * 4 ^ rows.length := Int.mul_nonneg (Int.le_of_lt hg.1) (Int.pow_nonneg (by decide))
    have eq1 : levelQ (rows.reverse.map (rowI (g * 4 ^ rows.length))) (k + 1) = stepN (fnOf (rowI (g * 4 ^ rows.length) rows.reverse[k])) (levelQ (rows.reverse.map (rowI (g * 4 ^ rows.length))) k) := levelQ_succ (by rw [List.getElem?_map, List.getElem?_eq_getElem lt]; rfl)
    have eq2 : towO rows (k + 1) = stepO (prF rows.reverse[k]) (towO rows k) := by
      unfold towO
      rw [List.take_succ_eq_append_getElem lt, List.map_append, List.reverse_append]
      rfl
    rw [eq1, eq2]
    refine step_stands pos (Int.le_of_lt hg.1) (mostN_bound hg.1 hk) (fun i j hi hj n => ?_) ih
    have mr : rows.reverse[k] ∈ rows := List.mem_reverse.mp (List.getElem_mem lt)
    generalize rows.reverse[k] = r at *
    have l6 := h6 r mr
    have c6 : colN i j < r.length := by
      rw [l6]
      unfold colN
      split <;> omega
    unfold prF fnOf rowI
    rw [List.getElem?_map, List.getElem?_eq_getElem c6]
    have mo : r[colN i j] ∈ r := List.getElem_mem c6
    generalize r[colN i j] = o at *
    cases o with
    | none => exact Int.le_refl _
    | some v =>
      have mp : v ∈ priced rows := List.mem_flatMap.mpr ⟨r, mr, List.mem_filterMap.mpr ⟨some v, mo, rfl⟩⟩
      have := hg.2.2 v mp
      exact ⟨rfl, Int.le_of_lt this.1, this.2⟩
end U
namespace U
open PySem PySem.Spec PyProof.Rows L2

/-- a list of new objects of any kind -/
theorem lc_freshO {J : It} {G : Hp → Prop} {xs : List V} (P : Plain J xs G) (f : Nat → HO) {te : TE} {j : Nat} {σ : L2.St} {H : Hp} {D : Addr} {Qd : Hp → Prop} (hD : H D = none) (hl : xs.length ≤ 1000) (hG : ∀ H', Same H H' → G H')
    (hs : ∀ i x H2 (Q : VK), xs[i]? = some x → Same H H2 → (∀ l H3, H2 l = none → Same H2 H3 → H3 l = some (f i) → Q (.ref l) H3) → te (σ.set j (some x)) H2 Q)
    (hd : ∀ (H2 : Hp) (ls : List Addr), Same H H2 → ls.length = xs.length → H2 D = some (.lst (ls.map V.ref)) → (∀ (i : Nat) (l : Addr), ls[i]? = some l → H2 l = some (f i)) → ls.Nodup → D ∉ ls → (∀ l ∈ ls, H l = none) → Qd H2) : LcB J (gName j) tYes te [j] σ H D Qd := by
  refine lc_plain P (fun i H' => Same H H' ∧ ∃ ls : List Addr, H' D = some (.lst (ls.map V.ref)) ∧ ls.length = i ∧ D ∉ ls ∧ (∀ (j : Nat) (a : Addr), ls[j]? = some a → H' a = some (f j)) ∧ ls.Nodup ∧ ∀ l ∈ ls, H l = none)
    ⟨same_new hD, [], upd_same, rfl, (fun m => nomatch m), (fun j a z => nomatch z), .nil, fun l m => nomatch m⟩ (fun i H' z => hG _ z.1) ?_ (fun H2 ⟨s2, ls, gD, hl, nD, at_, nd, fr⟩ => hd H2 ls s2 hl gD at_ nd nD fr)
  rintro i x H2 hx ⟨s2, ls, gD, hll, nD, at_, nd, fr⟩
  have hi : i < xs.length := (List.getElem?_eq_some_iff.mp hx).1
  show wipe _ [j] = wipe σ [j] ∧ _
  refine ⟨by simp only [wipe, List.set_set], ?_⟩
  show te ((σ.set j none).set j (some x)) H2 _
  rw [List.set_set]
  refine hs i x H2 _ hx s2 fun l H3 nl s3 gl => ?_
  have lD : l ≠ D := by rintro rfl; rw [gD] at nl; cases nl
  have lls : l ∉ ls := fun m => by
    obtain ⟨k, lt, e⟩ := List.mem_iff_getElem.mp m
    have := at_ k l (by rw [← e]; exact List.getElem?_eq_getElem lt)
    rw [this] at nl
    cases nl
  refine ⟨_, s3 _ _ gD, ?_, (Off.trans (Same.off (s2.trans s3)) off_upd).same hD, ls ++ [l], by rw [upd_same]; simp, by simp [hll], ?_, ?_, ?_, ?_⟩
  · rw [List.length_map, hll]
    exact Nat.lt_of_lt_of_le (show i < 1001 by omega) (by decide)
  · rintro m
    rcases List.mem_append.mp m with m | m
    · exact nD m
    · exact lD (List.mem_singleton.mp m).symm
  · rintro k y z1
    have yD : y ≠ D := by
      rintro rfl
      rcases List.mem_append.mp (List.mem_of_getElem? z1) with m | m
      · exact nD m
      · exact lD (List.mem_singleton.mp m).symm
    rw [upd_ne yD]
    by_cases e : k < ls.length
    · rw [List.getElem?_append_left e] at z1
      exact s3 _ _ (at_ k y z1)
    · have e2 : k = ls.length := by
        have := (List.getElem?_eq_some_iff.mp z1).1
        simp at this
        omega
      subst e2
      rw [List.getElem?_append_right (Nat.le_refl _), Nat.sub_self] at z1
      cases z1
      rw [← hll] at gl
      exact gl
  · rw [List.nodup_append]
    refine ⟨nd, by simp, fun x hx y hy => ?_⟩
    rw [List.mem_singleton.mp hy]
    rintro rfl
    exact lls hx
  · intro y m
    rcases List.mem_append.mp m with m | m
    · exact fr y m
    · rw [List.mem_singleton.mp m]
      cases e : H l with
      | none => rfl
      | some o => rw [s2 _ _ e] at nl; cases nl
section
variable {K : PySem.W.Frag} (F : KF K) (R : KR K) {vs : List V} {H : Hp} {Q : VK} {E : XK}
local macro_rules | `(tactic| walk_at "w") => `(tactic| try simp only [turnE, lcT, Snoc, tRet, tRetN, tAndV, tOrV, tNotV, tCB, tCons, tVar, tNil, tC, tOp, tSeq, tAsg, gName, gSub, tIfS, tDrop, tFn, tTup, tLst, tNext, tB, tTest, tNot, tAnd, tOr, tIf, tChain, tUn, rU, tFld, tPart, tNoPart, L2.tSl, tBM, tPar, tPar3, tTruth, tDNewK,
  L2.start, List.map_cons, List.map_nil, List.length_cons, List.length_nil, List.replicate_succ, List.replicate_zero, List.append_nil, List.nil_append, List.cons_append, List.singleton_append, Nat.sub_self, Nat.zero_add, Nat.reduceAdd, Nat.reduceSub,
  List.getElem?_cons_zero, List.getElem?_cons_succ, List.set_cons_zero, List.set_cons_succ, Option.some.injEq, exists_eq_left, exists_eq_left', V.int.injEq, V.bl.injEq, V.str.injEq, V.ref.injEq,
  uAdd_int, uAdd_str, uSub_int, uMul_int, uMul_str, uDiv_int, uMod_int, uPow_int, uLt_int, uLe_int, uGt_int, uGe_int, uIs_non, uNis_non, uIs_bl, uNis_bl, sp1, sp2, sp3, sp4, uEq_int, uEq_str, uNe_int, uNe_str, uSl_str, uLen_str, decide_eq_true_eq])
local macro_rules | `(tactic| walk_at "1") => `(tactic| try simp only [turnE, lcT, Snoc, tRet, tRetN, tAndV, tOrV, tNotV, tCB, tCons, tVar, tNil, tC, tOp, tAsg, gName, gSub, tIfS, tDrop, tFn, tTup, tLst, tNext, tB, tTest, tNot, tAnd, tOr, tIf, tChain, tUn, rU, tFld, tPart, tNoPart, L2.tSl, tBM, tPar, tPar3, tTruth, tDNewK,
  L2.start, List.map_cons, List.map_nil, List.length_cons, List.length_nil, List.replicate_succ, List.replicate_zero, List.append_nil, List.nil_append, List.cons_append, List.singleton_append, Nat.sub_self, Nat.zero_add, Nat.reduceAdd, Nat.reduceSub,
  List.getElem?_cons_zero, List.getElem?_cons_succ, List.set_cons_zero, List.set_cons_succ, Option.some.injEq, exists_eq_left, exists_eq_left', V.int.injEq, V.bl.injEq, V.str.injEq, V.ref.injEq,
  uAdd_int, uAdd_str, uSub_int, uMul_int, uMul_str, uDiv_int, uMod_int, uPow_int, uLt_int, uLe_int, uGt_int, uGe_int, uIs_non, uNis_non, uIs_bl, uNis_bl, sp1, sp2, sp3, sp4, uEq_int, uEq_str, uNe_int, uNe_str, uSl_str, uLen_str, decide_eq_true_eq])
local macro_rules | `(tactic| walk_at "s") => `(tactic| ((try dsimp only [turnE]); with_reducible refine seq_ ?_))

theorem len6_of {y : Addr} {rows : List (List (Option Int))} (h : Yd K H y rows) : ∀ r ∈ rows, r.length = 6 := by
  obtain ⟨dx, t, as, _, _, _, _, _, _, y7⟩ := h
  exact fun r m => (y7 r m).1
theorem YdK.same {H' : Hp} {y : Addr} {rows : List (List (Option Int))} (e : Same H H') (h : YdK K H y rows) : YdK K H' y rows := by
  obtain ⟨h1, h2, dx, t, rk, gy, hk⟩ := h
  refine ⟨h1.same e, h2, dx, t, rk, e _ _ gy, ?_⟩
  rcases hk with rfl | ⟨a, rfl, ra⟩
  · exact .inl rfl
  · exact .inr ⟨a, rfl, ra.same e⟩
end
end U
namespace U
open PySem PySem.Spec PyProof.Rows L2

/-! ### the ways on which a crate moves just once -/
section
variable {K : PySem.W.Frag} (F : KF K) {vs : List V} {H : Hp} {Q : VK} {E : XK}
local macro_rules | `(tactic| walk_at "w") => `(tactic| try simp only [turnE, lcT, Snoc, tRet, tRetN, tAndV, tOrV, tNotV, tCB, tCons, tVar, tNil, tC, tOp, tSeq, tAsg, gName, gSub, tIfS, tDrop, tFn, tTup, tLst, tNext, tB, tTest, tNot, tAnd, tOr, tIf, tChain, tUn, rU, tFld, tPart, tNoPart, L2.tSl, tBM, tPar, tPar3, tTruth, tDNewK,
  L2.start, List.map_cons, List.map_nil, List.length_cons, List.length_nil, List.replicate_succ, List.replicate_zero, List.append_nil, List.nil_append, List.cons_append, List.singleton_append, Nat.sub_self, Nat.zero_add, Nat.reduceAdd, Nat.reduceSub,
  List.getElem?_cons_zero, List.getElem?_cons_succ, List.set_cons_zero, List.set_cons_succ, Option.some.injEq, exists_eq_left, exists_eq_left', V.int.injEq, V.bl.injEq, V.str.injEq, V.ref.injEq,
  uAdd_int, uAdd_str, uSub_int, uMul_int, uMul_str, uDiv_int, uMod_int, uPow_int, uLt_int, uLe_int, uGt_int, uGe_int, uIs_non, uNis_non, uIs_bl, uNis_bl, sp1, sp2, sp3, sp4, uEq_int, uEq_str, uNe_int, uNe_str, uSl_str, uLen_str, decide_eq_true_eq])
local macro_rules | `(tactic| walk_at "1") => `(tactic| try simp only [turnE, lcT, Snoc, tRet, tRetN, tAndV, tOrV, tNotV, tCB, tCons, tVar, tNil, tC, tOp, tAsg, gName, gSub, tIfS, tDrop, tFn, tTup, tLst, tNext, tB, tTest, tNot, tAnd, tOr, tIf, tChain, tUn, rU, tFld, tPart, tNoPart, L2.tSl, tBM, tPar, tPar3, tTruth, tDNewK,
  L2.start, List.map_cons, List.map_nil, List.length_cons, List.length_nil, List.replicate_succ, List.replicate_zero, List.append_nil, List.nil_append, List.cons_append, List.singleton_append, Nat.sub_self, Nat.zero_add, Nat.reduceAdd, Nat.reduceSub,
  List.getElem?_cons_zero, List.getElem?_cons_succ, List.set_cons_zero, List.set_cons_succ, Option.some.injEq, exists_eq_left, exists_eq_left', V.int.injEq, V.bl.injEq, V.str.injEq, V.ref.injEq,
  uAdd_int, uAdd_str, uSub_int, uMul_int, uMul_str, uDiv_int, uMod_int, uPow_int, uLt_int, uLe_int, uGt_int, uGe_int, uIs_non, uNis_non, uIs_bl, uNis_bl, sp1, sp2, sp3, sp4, uEq_int, uEq_str, uNe_int, uNe_str, uSl_str, uLen_str, decide_eq_true_eq])
local macro_rules | `(tactic| walk_at "s") => `(tactic| ((try dsimp only [turnE]); with_reducible refine seq_ ?_))

end
end U
namespace U
open PySem PySem.Spec PyProof.Rows L2

/-! ### straight_ways -/
theorem price_stands {rows : List (List (Option Int))} {g : Int} (hg : Great rows g) (h6 : ∀ r ∈ rows, r.length = 6) {r : List (Option Int)} (mr : r ∈ rows) {i j : Nat} (hi : i < 3) (hj : j < 3) (n : i ≠ j) : Stands (g * 4 ^ rows.length) g (prF r i j) (fnOf (rowI (g * 4 ^ rows.length) r) i j) := by
  have l6 := h6 r mr
  have c6 : colN i j < r.length := by
    rw [l6]
    unfold colN
    split <;> omega
  unfold prF fnOf rowI
  rw [List.getElem?_map, List.getElem?_eq_getElem c6]
  have mo : r[colN i j] ∈ r := List.getElem_mem c6
  generalize r[colN i j] = o at *
  cases o with
  | none => exact Int.le_refl _
  | some v =>
    have mp : v ∈ priced rows := List.mem_flatMap.mpr ⟨r, mr, List.mem_filterMap.mpr ⟨some v, mo, rfl⟩⟩
    have := hg.2.2 v mp
    exact ⟨rfl, Int.le_of_lt this.1, this.2⟩
section
variable {K : PySem.W.Frag} (F : KF K) (R : KR K) {vs : List V} {H : Hp} {Q : VK} {E : XK}
local macro_rules | `(tactic| walk_at "w") => `(tactic| try simp only [turnE, lcT, Snoc, tRet, tRetN, tAndV, tOrV, tNotV, tCB, tCons, tVar, tNil, tC, tOp, tSeq, tAsg, gName, gSub, tIfS, tDrop, tFn, tTup, tLst, tNext, tB, tTest, tNot, tAnd, tOr, tIf, tChain, tUn, rU, tFld, tPart, tNoPart, L2.tSl, tBM, tPar, tPar3, tTruth, tDNewK,
  L2.start, List.map_cons, List.map_nil, List.length_cons, List.length_nil, List.replicate_succ, List.replicate_zero, List.append_nil, List.nil_append, List.cons_append, List.singleton_append, Nat.sub_self, Nat.zero_add, Nat.reduceAdd, Nat.reduceSub,
  List.getElem?_cons_zero, List.getElem?_cons_succ, List.set_cons_zero, List.set_cons_succ, Option.some.injEq, exists_eq_left, exists_eq_left', V.int.injEq, V.bl.injEq, V.str.injEq, V.ref.injEq,
  uAdd_int, uAdd_str, uSub_int, uMul_int, uMul_str, uDiv_int, uMod_int, uPow_int, uLt_int, uLe_int, uGt_int, uGe_int, uIs_non, uNis_non, uIs_bl, uNis_bl, sp1, sp2, sp3, sp4, uEq_int, uEq_str, uNe_int, uNe_str, uSl_str, uLen_str, decide_eq_true_eq])
local macro_rules | `(tactic| walk_at "1") => `(tactic| try simp only [turnE, lcT, Snoc, tRet, tRetN, tAndV, tOrV, tNotV, tCB, tCons, tVar, tNil, tC, tOp, tAsg, gName, gSub, tIfS, tDrop, tFn, tTup, tLst, tNext, tB, tTest, tNot, tAnd, tOr, tIf, tChain, tUn, rU, tFld, tPart, tNoPart, L2.tSl, tBM, tPar, tPar3, tTruth, tDNewK,
  L2.start, List.map_cons, List.map_nil, List.length_cons, List.length_nil, List.replicate_succ, List.replicate_zero, List.append_nil, List.nil_append, List.cons_append, List.singleton_append, Nat.sub_self, Nat.zero_add, Nat.reduceAdd, Nat.reduceSub,
  List.getElem?_cons_zero, List.getElem?_cons_succ, List.set_cons_zero, List.set_cons_succ, Option.some.injEq, exists_eq_left, exists_eq_left', V.int.injEq, V.bl.injEq, V.str.injEq, V.ref.injEq,
  uAdd_int, uAdd_str, uSub_int, uMul_int, uMul_str, uDiv_int, uMod_int, uPow_int, uLt_int, uLe_int, uGt_int, uGe_int, uIs_non, uNis_non, uIs_bl, uNis_bl, sp1, sp2, sp3, sp4, uEq_int, uEq_str, uNe_int, uNe_str, uSl_str, uLen_str, decide_eq_true_eq])
local macro_rules | `(tactic| walk_at "s") => `(tactic| ((try dsimp only [turnE]); with_reducible refine seq_ ?_))

end
end U
namespace U
open PySem PySem.Spec PyProof.Rows L2

/-! ### from an arrangement to the towers -/
/-- the costs to the towers of one crate more, at s at first; u: those of its rest -/
def fromP (f D : Nat → Nat → Int) (u : Nat → Int) (s j : Nat) : Int := if j = s then u j else min (u (3 - s - j) + f s j + D (3 - s - j) j) (u j + f s (3 - s - j) + D j s + f (3 - s - j) j + D s j)
def sp__from_place (K : PySem.W.Frag) : Sp := sp4 fun x y z w H Q _ => ∃ s p q r f D u, x = .str (wd [s]) ∧ s < 3 ∧ y = .ref p ∧ z = .ref q ∧ w = .ref r ∧ SqT K H p (iV (six f)) ∧ SqT K H q (iV (six D)) ∧ SqT K H r (iV (three u)) ∧ ∀ l H', Same H H' → H l = none → H' l = some (.tup (iV (three (fromP f D u s)))) → Q (.ref l) H'
def t__from_place (K : PySem.W.Frag) (E : XK) : TS := (tSeq (tAsg (tVar 2) (gTup K 6 (gCons (gName 4) (gCons (gName 5) (gCons (gName 6) (gCons (gName 7) (gCons (gName 8) (gCons (gName 9) gNil)))))))) (tSeq (tAsg (tVar 1) (gTup K 6 (gCons (gName 10) (gCons (gName 11) (gCons (gName 12) (gCons (gName 13) (gCons (gName 14) (gCons (gName 15) gNil)))))))) (tSeq (tAsg (tVar 3) (gTup K 3 (gCons (gName 16) (gCons (gName 17) (gCons (gName 18) gNil))))) (tSeq (tIfS (tTest (tOp (uEq K) (tVar 0) (tC (.str "a")))) (tRet (tTup (tCons (tVar 16) (tCons (tCB uMin2 (tCons (tOp uAdd (tOp uAdd (tVar 18) (tVar 10)) (tVar 9)) (tCons (tOp uAdd (tOp uAdd (tOp uAdd (tOp uAdd (tVar 17) (tVar 11)) (tVar 6)) (tVar 15)) (tVar 4)) tNil))) (tCons (tCB uMin2 (tCons (tOp uAdd (tOp uAdd (tVar 17) (tVar 11)) (tVar 7)) (tCons (tOp uAdd (tOp uAdd (tOp uAdd (tOp uAdd (tVar 18) (tVar 10)) (tVar 8)) (tVar 13)) (tVar 5)) tNil))) tNil))))) tNext) (tSeq (tIfS (tTest (tOp (uEq K) (tVar 0) (tC (.str "b")))) (tRet (tTup (tCons (tCB uMin2 (tCons (tOp uAdd (tOp uAdd (tVar 18) (tVar 12)) (tVar 8)) (tCons (tOp uAdd (tOp uAdd (tOp uAdd (tOp uAdd (tVar 16) (tVar 13)) (tVar 4)) (tVar 14)) (tVar 6)) tNil))) (tCons (tVar 17) (tCons (tCB uMin2 (tCons (tOp uAdd (tOp uAdd (tVar 16) (tVar 13)) (tVar 5)) (tCons (tOp uAdd (tOp uAdd (tOp uAdd (tOp uAdd (tVar 18) (tVar 12)) (tVar 9)) (tVar 11)) (tVar 7)) tNil))) tNil))))) tNext) (tRet (tTup (tCons (tCB uMin2 (tCons (tOp uAdd (tOp uAdd (tVar 17) (tVar 14)) (tVar 6)) (tCons (tOp uAdd (tOp uAdd (tOp uAdd (tOp uAdd (tVar 16) (tVar 15)) (tVar 5)) (tVar 12)) (tVar 8)) tNil))) (tCons (tCB uMin2 (tCons (tOp uAdd (tOp uAdd (tVar 16) (tVar 15)) (tVar 4)) (tCons (tOp uAdd (tOp uAdd (tOp uAdd (tOp uAdd (tVar 17) (tVar 14)) (tVar 7)) (tVar 10)) (tVar 9)) tNil))) (tCons (tVar 18) tNil))))))))))
section
variable {K : PySem.W.Frag} (F : KF K) (R : KR K) {vs : List V} {H : Hp} {Q : VK} {E : XK}
local macro_rules | `(tactic| walk_at "w") => `(tactic| try simp only [turnE, lcT, Snoc, tRet, tRetN, tAndV, tOrV, tNotV, tCB, tCons, tVar, tNil, tC, tOp, tSeq, tAsg, gName, gSub, tIfS, tDrop, tFn, tTup, tLst, tNext, tB, tTest, tNot, tAnd, tOr, tIf, tChain, tUn, rU, tFld, tPart, tNoPart, L2.tSl, tBM, tPar, tPar3, tTruth, tDNewK,
  L2.start, List.map_cons, List.map_nil, List.length_cons, List.length_nil, List.replicate_succ, List.replicate_zero, List.append_nil, List.nil_append, List.cons_append, List.singleton_append, Nat.sub_self, Nat.zero_add, Nat.reduceAdd, Nat.reduceSub,
  List.getElem?_cons_zero, List.getElem?_cons_succ, List.set_cons_zero, List.set_cons_succ, Option.some.injEq, exists_eq_left, exists_eq_left', V.int.injEq, V.bl.injEq, V.str.injEq, V.ref.injEq,
  uAdd_int, uAdd_str, uSub_int, uMul_int, uMul_str, uDiv_int, uMod_int, uPow_int, uLt_int, uLe_int, uGt_int, uGe_int, uIs_non, uNis_non, uIs_bl, uNis_bl, sp1, sp2, sp3, sp4, uEq_int, uEq_str, uNe_int, uNe_str, uSl_str, uLen_str, decide_eq_true_eq])
local macro_rules | `(tactic| walk_at "1") => `(tactic| try simp only [turnE, lcT, Snoc, tRet, tRetN, tAndV, tOrV, tNotV, tCB, tCons, tVar, tNil, tC, tOp, tAsg, gName, gSub, tIfS, tDrop, tFn, tTup, tLst, tNext, tB, tTest, tNot, tAnd, tOr, tIf, tChain, tUn, rU, tFld, tPart, tNoPart, L2.tSl, tBM, tPar, tPar3, tTruth, tDNewK,
  L2.start, List.map_cons, List.map_nil, List.length_cons, List.length_nil, List.replicate_succ, List.replicate_zero, List.append_nil, List.nil_append, List.cons_append, List.singleton_append, Nat.sub_self, Nat.zero_add, Nat.reduceAdd, Nat.reduceSub,
  List.getElem?_cons_zero, List.getElem?_cons_succ, List.set_cons_zero, List.set_cons_succ, Option.some.injEq, exists_eq_left, exists_eq_left', V.int.injEq, V.bl.injEq, V.str.injEq, V.ref.injEq,
  uAdd_int, uAdd_str, uSub_int, uMul_int, uMul_str, uDiv_int, uMod_int, uPow_int, uLt_int, uLe_int, uGt_int, uGe_int, uIs_non, uNis_non, uIs_bl, uNis_bl, sp1, sp2, sp3, sp4, uEq_int, uEq_str, uNe_int, uNe_str, uSl_str, uLen_str, decide_eq_true_eq])
local macro_rules | `(tactic| walk_at "s") => `(tactic| ((try dsimp only [turnE]); with_reducible refine seq_ ?_))

include F in
theorem read__from_place (h : sp__from_place K vs H Q E) : t__from_place K E { nx := fun _ H' => Q .non H', rt := Q } (start ["place", "prices", "towers", "below", "ab", "ac", "ba", "bc", "ca", "cb", "price_ab", "price_ac", "price_ba", "price_bc", "price_ca", "price_cb", "to_a", "to_b", "to_c"] vs) H := by
  match vs, h with
  | [_, _, _, _], ⟨s, p, b, r, f, D, u, rfl, hs, rfl, rfl, rfl, hp, hb, hr, q⟩ =>
    unfold t__from_place
    walk_at "s"
    walk_at "1"
    refine ⟨b, _, rfl, hb, rfl, un1 (un1 (un1 (un1 (un1 (un1 (un0 ?_))))))⟩
    walk_at "s"
    walk_at "1"
    refine ⟨p, _, rfl, hp, rfl, un1 (un1 (un1 (un1 (un1 (un1 (un0 ?_))))))⟩
    walk_at "s"
    walk_at "1"
    refine ⟨r, _, rfl, hr, rfl, un1 (un1 (un1 (un0 ?_)))⟩
    walk_at "s"
    walk_at "1"
    obtain rfl | rfl | rfl : s = 0 ∨ s = 1 ∨ s = 2 := by omega
    · rw [if_pos (by decide)]
      refine ⟨_, _, rfl, ⟨_, _, rfl, ⟨by decide, fun l hl => q l _ (same_new hl) hl ?_⟩⟩⟩
      rw [upd_same]
      simp only [min_int]
      rfl
    · rw [if_neg (by decide)]
      walk_at "s"
      walk_at "1"
      rw [if_pos (by decide)]
      refine ⟨_, _, rfl, ⟨_, _, rfl, ⟨by decide, fun l hl => q l _ (same_new hl) hl ?_⟩⟩⟩
      rw [upd_same]
      simp only [min_int]
      rfl
    · rw [if_neg (by decide)]
      walk_at "s"
      walk_at "1"
      rw [if_neg (by decide)]
      walk_at "1"
      refine ⟨_, _, rfl, ⟨_, _, rfl, ⟨by decide, fun l hl => q l _ (same_new hl) hl ?_⟩⟩⟩
      rw [upd_same]
      simp only [min_int]
      rfl
end
end U
namespace U
open PySem PySem.Spec PyProof.Rows L2

/-! ### the levels of the costs to the towers -/
def sp_to_towers_above (K : PySem.W.Frag) : Sp := sp4 fun x y z w H Q _ => ∃ s p q r f D u, x = .str (wd [s]) ∧ s < 3 ∧ y = .ref p ∧ z = .ref q ∧ w = .ref r ∧ SqT K H p (iV (six f)) ∧ SqT K H q (iV (six D)) ∧ SqT K H r (iV (three u)) ∧ ∀ l H', Same H H' → H l = none → H' l = some (.tup (iV (three (fromP f D u s)))) → Q (.ref l) H'
/-- of the k smallest crates of an arrangement, the smallest first -/
def toQ (qs : List (List Int)) (ss : List Nat) : Nat → Nat → Int
  | 0 => fun _ => 0
  | k + 1 => fromP (fnOf ((qs[k]?).getD [])) (levelQ qs k) (toQ qs ss k) ((ss[k]?).getD 0)
/-- the numbers of a reckoning -/
def RkN (K : PySem.W.Frag) (H : Hp) (a : Addr) (B : Int) (qs : List (List Int)) : Prop := ∃ lp lt : Addr, RkAt K H a B (.ref lp) (.ref lt) ∧ PrB K H lp qs ∧ PrB K H lt (towersL qs) ∧ (∀ q ∈ qs, q.length = 6) ∧ qs.length ≤ 60
def sp_Reckoning_to_towers (K : PySem.W.Frag) : Sp := sp2 fun x y H Q _ => ∃ a B qs ds, x = .ref a ∧ y = .str (wd ds) ∧ RkN K H a B qs ∧ D3 ds ∧ ds.length ≤ qs.length ∧
  ∀ (l : Addr) (cs : List Addr) (H' : Hp), Same H H' → H' l = some (.lst (cs.map V.ref)) → cs.length = ds.length + 1 → (∀ (k : Nat) (c : Addr), cs[k]? = some c → SqT K H' c (iV (three (toQ qs ds.reverse k)))) → Q (.ref l) H'
def t_to_towers_above (K : PySem.W.Frag) (E : XK) : TS := (tSeq (tIfS (tTest (tOp (uEq K) (tCB (uLen K) (tCons (tVar 0) tNil)) (tC (.int 1)))) (tRet (tFn (sp__from_place K) E (tCons (tVar 0) (tCons (tVar 1) (tCons (tVar 2) (tCons (tVar 3) tNil)))))) tNext) (tSeq (tAsg (tLc (iSeq K (tVar 0)) (gName 5) tYes (tFn (sp__from_place K) E0 (tCons (tVar 5) (tCons (tVar 1) (tCons (tVar 2) (tCons (tVar 3) tNil))))) [5]) (gName 4)) tNeverS))
def t_Reckoning_to_towers (K : PySem.W.Frag) (E : XK) : TS := (tSeq (tAsg (tLst (tCons (tTup (tCons (tC (.int 0)) (tCons (tC (.int 0)) (tCons (tC (.int 0)) tNil)))) tNil)) (gName 2)) (tSeq (tFor (iZip3 K (tCons (tRevS (tVar 1)) (tCons (tFld K (tVar 0) "prices") (tCons (tFld K (tVar 0) "towers") tNil)))) (gTup K 3 (gCons (gName 3) (gCons (gName 4) (gCons (gName 5) gNil)))) (tDrop (tBM K "list" rAppend (tVar 2) (tCons (tFn (sp_to_towers_above K) E (tCons (tVar 3) (tCons (tVar 4) (tCons (tVar 5) (tCons (tOp (uIx K) (tVar 2) (tUn (rU fun i => .int (-i)) (tC (.int 1)))) tNil))))) tNil)))) (tRet (tVar 2))))
section
variable {K : PySem.W.Frag} (F : KF K) (R : KR K) {vs : List V} {H : Hp} {Q : VK} {E : XK}
local macro_rules | `(tactic| walk_at "w") => `(tactic| try simp only [turnE, lcT, Snoc, tRet, tRetN, tAndV, tOrV, tNotV, tCB, tCons, tVar, tNil, tC, tOp, tSeq, tAsg, gName, gSub, tIfS, tDrop, tFn, tTup, tLst, tNext, tB, tTest, tNot, tAnd, tOr, tIf, tChain, tUn, rU, tFld, tPart, tNoPart, L2.tSl, tBM, tPar, tPar3, tTruth, tDNewK,
  L2.start, List.map_cons, List.map_nil, List.length_cons, List.length_nil, List.replicate_succ, List.replicate_zero, List.append_nil, List.nil_append, List.cons_append, List.singleton_append, Nat.sub_self, Nat.zero_add, Nat.reduceAdd, Nat.reduceSub,
  List.getElem?_cons_zero, List.getElem?_cons_succ, List.set_cons_zero, List.set_cons_succ, Option.some.injEq, exists_eq_left, exists_eq_left', V.int.injEq, V.bl.injEq, V.str.injEq, V.ref.injEq,
  uAdd_int, uAdd_str, uSub_int, uMul_int, uMul_str, uDiv_int, uMod_int, uPow_int, uLt_int, uLe_int, uGt_int, uGe_int, uIs_non, uNis_non, uIs_bl, uNis_bl, sp1, sp2, sp3, sp4, uEq_int, uEq_str, uNe_int, uNe_str, uSl_str, uLen_str, decide_eq_true_eq])
local macro_rules | `(tactic| walk_at "1") => `(tactic| try simp only [turnE, lcT, Snoc, tRet, tRetN, tAndV, tOrV, tNotV, tCB, tCons, tVar, tNil, tC, tOp, tAsg, gName, gSub, tIfS, tDrop, tFn, tTup, tLst, tNext, tB, tTest, tNot, tAnd, tOr, tIf, tChain, tUn, rU, tFld, tPart, tNoPart, L2.tSl, tBM, tPar, tPar3, tTruth, tDNewK,
  L2.start, List.map_cons, List.map_nil, List.length_cons, List.length_nil, List.replicate_succ, List.replicate_zero, List.append_nil, List.nil_append, List.cons_append, List.singleton_append, Nat.sub_self, Nat.zero_add, Nat.reduceAdd, Nat.reduceSub,
  List.getElem?_cons_zero, List.getElem?_cons_succ, List.set_cons_zero, List.set_cons_succ, Option.some.injEq, exists_eq_left, exists_eq_left', V.int.injEq, V.bl.injEq, V.str.injEq, V.ref.injEq,
  uAdd_int, uAdd_str, uSub_int, uMul_int, uMul_str, uDiv_int, uMod_int, uPow_int, uLt_int, uLe_int, uGt_int, uGe_int, uIs_non, uNis_non, uIs_bl, uNis_bl, sp1, sp2, sp3, sp4, uEq_int, uEq_str, uNe_int, uNe_str, uSl_str, uLen_str, decide_eq_true_eq])
local macro_rules | `(tactic| walk_at "s") => `(tactic| ((try dsimp only [turnE]); with_reducible refine seq_ ?_))

theorem wd_cp {es : List Nat} {i c : Nat} (h : (wd es).cps[i]? = some c) : ∃ s, es[i]? = some s ∧ c = 97 + s := by
  unfold wd at h
  rw [List.getElem?_toArray, List.getElem?_map] at h
  obtain ⟨s, hs, e⟩ := Option.map_eq_some_iff.mp h
  exact ⟨s, hs, e.symm⟩
theorem tFor_zip3 {ta : TA} {g : TG} {tb : TS} {D : Ends} {σ : L2.St} (h : ta σ H fun vs H1 => ∃ x a b xs ys, vs = [.str x, .ref a, .ref b] ∧ (SqL K H1 a xs ∧ (SqL K H1 b ys ∧ tFor (fun _ H' R => R (Itz3 K x a b) H') g tb D σ H1))) : tFor (iZip3 K ta) g tb D σ H := h
include F in
theorem read_to_towers_above (h : sp_to_towers_above K vs H Q E) : t_to_towers_above K E { nx := fun _ H' => Q .non H', rt := Q } (start ["places", "prices", "towers", "below", "ones", "place", "costs"] vs) H := by
  match vs, h with
  | [_, _, _, _], ⟨s, p, b, r, f, D, u, rfl, hs, rfl, rfl, rfl, hp, hb, hr, q⟩ =>
    unfold t_to_towers_above
    walk_at "s"
    walk_at "1"
    have l1 : (wd [s]).length = 1 := by rw [wd_length]; rfl
    refine ⟨by rw [l1]; decide, ?_⟩
    rw [l1, if_pos (by decide)]
    exact ⟨s, p, b, r, f, D, u, rfl, hs, rfl, rfl, rfl, hp, hb, hr, q⟩
include F R in
theorem read_Reckoning_to_towers (h : sp_Reckoning_to_towers K vs H Q E) : t_Reckoning_to_towers K E { nx := fun _ H' => Q .non H', rt := Q } (start ["self", "starts", "levels", "places", "prices", "towers"] vs) H := by
  match vs, h with
  | [_, _], ⟨a, B, qs, ds, rfl, rfl, ⟨lp, lt, ⟨da, bk, ga⟩, ⟨bs, b1, b2, b3⟩, ⟨ts, c1, c2, c3⟩, h6, h60⟩, d3, hl, q⟩ =>
    unfold t_Reckoning_to_towers
    walk_at "s"
    walk_at "1"
    refine ⟨by decide, fun z nz => ⟨by decide, fun l nl => ?_⟩⟩
    have s2 : Same H (upd H z (.tup (iV [0, 0, 0]))) := same_new nz
    have gz : upd H z (.tup (iV [0, 0, 0])) z = some (.tup (iV [0, 0, 0])) := upd_same
    change upd H z (.tup (iV [0, 0, 0])) l = none at nl
    show tSeq _ _ _ _ (upd (upd H z (.tup (iV [0, 0, 0]))) l (.lst [.ref z]))
    generalize upd H z (.tup (iV [0, 0, 0])) = H2 at *
    have s3 : Same H2 (upd H2 l (.lst [.ref z])) := same_new nl
    have g3 : upd H2 l (.lst [.ref z]) l = some (.lst [.ref z]) := upd_same
    generalize upd H2 l (.lst [.ref z]) = H3 at *
    have s13 := s2.trans s3
    walk_at "s"
    refine tFor_zip3 ?_
    have hw : (wd ds).length ≤ sizeLine := by rw [wd_length, sizeLine_eq]; omega
    refine ⟨.str (wd ds), rfl, wd ds, rfl, hw, fun u => ?_⟩
    rw [rev_wd2]
    have b1' := s13 _ _ b1
    have c1' := s13 _ _ c1
    refine ⟨.ref a, rfl, a, _, da, _, .ref lp, rfl, s13 _ _ ga, R.cl, R.prices, rfl, .ref a, rfl, a, _, da, _, .ref lt, rfl, s13 _ _ ga, R.cl, R.towers, rfl, wd ds.reverse, lp, lt, _, _, rfl, .inl (.inl b1'), .inl (.inl c1'), ?_⟩
    have sz : (wd ds.reverse).cps.size = ds.length := by
      show (wd ds.reverse).length = _
      rw [wd_length, List.length_reverse]
    have lc : ts.length = qs.length + 1 := by
      rw [c2]
      unfold towersL; rw [List.length_map, List.length_range]
    refine for_zip3 (K := K) (x := wd ds.reverse) (a := lp) (b := lt) (xs := bs.map V.ref) (ys := ts.map V.ref) (fun R r => r) (by rw [sz, List.length_map, b2]; exact hl) (by rw [sz, List.length_map, lc]; omega)
      (fun i τ H' => (∃ o3 o4 o5, τ = [some (.ref a), some (.str (wd ds)), some (.ref l), o3, o4, o5]) ∧ Same H2 H' ∧ ∃ cs : List Addr, H' l = some (.lst (cs.map V.ref)) ∧ cs.length = i + 1 ∧ ∀ (k : Nat) (c : Addr), cs[k]? = some c → SqT K H' c (iV (three (toQ qs ds.reverse k))))
      ⟨⟨_, _, _, rfl⟩, s3, [z], g3, rfl, fun k c e => ?_⟩ (fun i τ H' w => ⟨.inl (.inl (w.2.1 _ _ (s2 _ _ b1))), .inl (.inl (w.2.1 _ _ (s2 _ _ c1)))⟩) ?_ ?_
    · match k, e with
      | 0, e =>
        cases e
        exact .inl (.inl (s3 _ _ gz))
    · rintro i c u v τ H5 T hc hu hv ⟨⟨o3, o4, o5, rfl⟩, s5, cs, k1, k2, k3⟩ nT
      rw [List.getElem?_map] at hu hv
      obtain ⟨b, hb, rfl⟩ := Option.map_eq_some_iff.mp hu
      obtain ⟨t, ht, rfl⟩ := Option.map_eq_some_iff.mp hv
      obtain ⟨s, hs, rfl⟩ := wd_cp hc
      have ls : i < qs.length := by
        have := (List.getElem?_eq_some_iff.mp hs).1
        rw [List.length_reverse] at this
        omega
      have s3lt : s < 3 := d3 s (List.mem_reverse.mp (List.mem_of_getElem? hs))
      have hq : qs[i]? = some qs[i] := List.getElem?_eq_getElem ls
      have m6 := h6 _ (List.getElem_mem ls)
      have sT : Same H2 (upd H5 T (.tup [.str ⟨#[97 + s]⟩, .ref b, .ref t])) := s5.trans (same_new nT)
      have tb := Same.sqT (s2.trans sT) (b3 i b _ hb hq)
      have tt := Same.sqT (s2.trans sT) (c3 i t (six (levelQ qs i)) ht (by
        unfold towersL
        rw [List.getElem?_map, List.getElem?_range (by omega)]
        rfl))
      obtain ⟨d, hd⟩ : ∃ d, cs[i]? = some d := ⟨_, List.getElem?_eq_getElem (by omega)⟩
      have td : SqT K (upd H5 T (.tup [.str ⟨#[97 + s]⟩, .ref b, .ref t])) d (iV (three (toQ qs ds.reverse i))) := Same.sqT (same_new nT) (k3 i d hd)
      have next : toQ qs ds.reverse (i + 1) = fromP (fnOf qs[i]) (levelQ qs i) (toQ qs ds.reverse i) s := by
        show fromP (fnOf ((qs[i]?).getD [])) _ _ ((ds.reverse[i]?).getD 0) = _
        rw [hq, hs]
        rfl
      generalize qs[i] = w at *
      have kT : upd H5 T (.tup [.str ⟨#[97 + s]⟩, .ref b, .ref t]) l = some (.lst (cs.map V.ref)) := by
        rw [upd_ne (by rintro rfl; rw [k1] at nT; cases nT)]
        exact k1
      refine ⟨T, _, rfl, .inl (.inl upd_same), rfl, un1 (un1 (un1 (un0 ?_)))⟩
      have k3' : ∀ (k : Nat) (c : Addr), cs[k]? = some c → SqT K (upd H5 T (.tup [.str ⟨#[97 + s]⟩, .ref b, .ref t])) c (iV (three (toQ qs ds.reverse k))) := fun k c e => Same.sqT (same_new nT) (k3 k c e)
      generalize upd H5 T (.tup [.str ⟨#[97 + s]⟩, .ref b, .ref t]) = H6 at *
      simp only [List.set_cons_zero, List.set_cons_succ]
      walk_at "1"
      refine ⟨Or.inl ⟨rfl, _, .inl (.inl kT)⟩, ?_⟩
      refine ⟨_, .ref d, .inl (.inl (.inl kT)), at_end (n := i) (by rw [List.length_map, k2]) (by rw [List.getElem?_map, hd]; rfl), ?_⟩
      refine ⟨s, b, t, d, fnOf w, levelQ qs i, toQ qs ds.reverse i, rfl, s3lt, rfl, rfl, rfl, by rw [six_fn m6]; exact tb, tt, td, fun r H7 s7 nr gr => ?_⟩
      refine ⟨l, _, .ref r, rfl, rfl, s7 _ _ kT, by rw [List.length_map, k2, sizeLine_eq]; omega, ?_⟩
      have kT' := s7 _ _ kT
      have o8 : Off l H7 (upd H7 l (.lst (cs.map V.ref ++ [.ref r]))) := off_upd
      refine ⟨⟨_, _, _, rfl⟩, (Off.trans (Same.off (sT.trans s7)) o8).same nl, cs ++ [r], by rw [upd_same, List.map_append]; rfl, by rw [List.length_append, k2]; rfl, fun j c2 e => ?_⟩
      by_cases lj : j < cs.length
      · rw [List.getElem?_append_left lj] at e
        exact o8.sqT kT' (Same.sqT s7 (k3' j c2 e))
      · have ej : j = i + 1 := by
          have := (List.getElem?_eq_some_iff.mp e).1
          rw [List.length_append, List.length_singleton] at this
          omega
        subst ej
        rw [List.getElem?_append_right (by omega), k2, Nat.sub_self] at e
        cases e
        rw [next]
        exact o8.sqT kT' (.inl (.inl gr))
    · rintro τ H5 ⟨⟨o3, o4, o5, rfl⟩, s5, cs, k1, k2, k3⟩
      rw [sz] at k2
      exact ⟨_, rfl, q l cs H5 (s2.trans s5) k1 k2 k3⟩
end
end U
namespace U
open PySem PySem.Spec PyProof.Rows L2

/-! ### the ways back -/
theorem fn_six (g : Nat → Nat → Int) {i j : Nat} (hi : i < 3) (hj : j < 3) (n : i ≠ j) : fnOf (six g) i j = g i j := by
  rcases (show i = 0 ∧ j = 1 ∨ i = 0 ∧ j = 2 ∨ i = 1 ∧ j = 0 ∨ i = 1 ∧ j = 2 ∨ i = 2 ∧ j = 0 ∨ i = 2 ∧ j = 1 by omega) with ⟨rfl, rfl⟩ | ⟨rfl, rfl⟩ | ⟨rfl, rfl⟩ | ⟨rfl, rfl⟩ | ⟨rfl, rfl⟩ | ⟨rfl, rfl⟩ <;> rfl
theorem six_congr {f g : Nat → Nat → Int} (h : ∀ i j, i < 3 → j < 3 → i ≠ j → f i j = g i j) : six f = six g := by
  unfold six
  exact List.map_congr_left fun w m => by
    obtain ⟨a, b, c⟩ := waysN_ok w m
    exact h _ _ a b c
theorem levelQ_turn {qs : List (List Int)} : ∀ k, k ≤ qs.length → ∀ i j, i < 3 → j < 3 → i ≠ j → levelQ (qs.map turnQ) k i j = levelQ qs k j i := by
  intro k
  induction k with
  | zero => intro _ i j _ _ _; rfl
  | succ k ih =>
    intro hk i j hi hj n
    have ih := ih (by omega)
    have e1 : levelQ qs (k + 1) = stepN (fnOf qs[k]) (levelQ qs k) := levelQ_succ (List.getElem?_eq_getElem hk)
    have e2 : levelQ (qs.map turnQ) (k + 1) = stepN (fnOf (turnQ qs[k])) (levelQ (qs.map turnQ) k) := levelQ_succ (by rw [List.getElem?_map, List.getElem?_eq_getElem hk]; rfl)
    rw [e1, e2]
    generalize qs[k] = q at *
    have ht : 3 - i - j < 3 ∧ i ≠ 3 - i - j ∧ 3 - i - j ≠ j := by omega
    have es : 3 - j - i = 3 - i - j := by omega
    have p := fun a b (ha : a < 3) (hb : b < 3) (nab : a ≠ b) => fn_six (fun x y => fnOf q y x) ha hb nab
    show stepN (fnOf (six fun x y => fnOf q y x)) _ i j = _
    unfold stepN lineS lineT2
    rw [es, p i j hi hj n, p i _ hi ht.1 ht.2.1, p _ j ht.1 hj ht.2.2, ih i _ hi ht.1 ht.2.1, ih _ j ht.1 hj ht.2.2, ih i j hi hj n, ih j i hj hi n.symm]
    omega
def sp_Reckoning_backwards (K : PySem.W.Frag) : Sp := sp1 fun x H Q _ => ∃ (a : Addr) (B : Int) (qs : List (List Int)) (lp lt : Addr), x = .ref a ∧ (∃ dx bk, H a = some (.ins (He.ga K "Reckoning") dx (rkF B (.ref lp) (.ref lt) bk)) ∧ Bk K H bk B qs) ∧ PrB K H lp qs ∧ PrB K H lt (towersL qs) ∧ qs.length ≤ 60 ∧ (∀ q ∈ qs, q.length = 6) ∧
  ∀ (b : Addr) (H' : Hp), Off a H H' → (∃ dx bk, H' a = some (.ins (He.ga K "Reckoning") dx (rkF B (.ref lp) (.ref lt) bk)) ∧ Bk K H' bk B qs) → PrB K H' lp qs → PrB K H' lt (towersL qs) → RkN0 K H' b B (qs.map turnQ) → Q (.ref b) H'
def t_Reckoning_backwards (K : PySem.W.Frag) (E : XK) : TS := (tSeq (tIfS (tTest (tOp uIs (tFld K (tVar 0) "_backwards") (tC .non))) (tSeq (tAsg (tLc (iSeq K (tFld K (tVar 0) "prices")) (gName 2) tYes (tFn (sp_turned K) E0 (tCons (tVar 2) tNil)) [2]) (gName 1)) (sFld K (tVar 0) (tMake (He.ga K "Reckoning") (sp_Reckoning_init K) [] E (tCons (tFld K (tVar 0) "bound") (tCons (tVar 1) (tCons (tLc (iSeq K (tFld K (tVar 0) "towers")) (gName 2) tYes (tFn (sp_turned K) E0 (tCons (tVar 2) tNil)) [2]) tNil)))) "_backwards")) tNext) (tRet (tFld K (tVar 0) "_backwards")))
section
variable {K : PySem.W.Frag} (F : KF K) (R : KR K) {vs : List V} {H : Hp} {Q : VK} {E : XK}
local macro_rules | `(tactic| walk_at "w") => `(tactic| try simp only [turnE, lcT, Snoc, tRet, tRetN, tAndV, tOrV, tNotV, tCB, tCons, tVar, tNil, tC, tOp, tSeq, tAsg, gName, gSub, tIfS, tDrop, tFn, tTup, tLst, tNext, tB, tTest, tNot, tAnd, tOr, tIf, tChain, tUn, rU, tFld, tPart, tNoPart, L2.tSl, tBM, tPar, tPar3, tTruth, tDNewK,
  L2.start, List.map_cons, List.map_nil, List.length_cons, List.length_nil, List.replicate_succ, List.replicate_zero, List.append_nil, List.nil_append, List.cons_append, List.singleton_append, Nat.sub_self, Nat.zero_add, Nat.reduceAdd, Nat.reduceSub,
  List.getElem?_cons_zero, List.getElem?_cons_succ, List.set_cons_zero, List.set_cons_succ, Option.some.injEq, exists_eq_left, exists_eq_left', V.int.injEq, V.bl.injEq, V.str.injEq, V.ref.injEq,
  uAdd_int, uAdd_str, uSub_int, uMul_int, uMul_str, uDiv_int, uMod_int, uPow_int, uLt_int, uLe_int, uGt_int, uGe_int, uIs_non, uNis_non, uIs_bl, uNis_bl, sp1, sp2, sp3, sp4, uEq_int, uEq_str, uNe_int, uNe_str, uSl_str, uLen_str, decide_eq_true_eq])
local macro_rules | `(tactic| walk_at "1") => `(tactic| try simp only [turnE, lcT, Snoc, tRet, tRetN, tAndV, tOrV, tNotV, tCB, tCons, tVar, tNil, tC, tOp, tAsg, gName, gSub, tIfS, tDrop, tFn, tTup, tLst, tNext, tB, tTest, tNot, tAnd, tOr, tIf, tChain, tUn, rU, tFld, tPart, tNoPart, L2.tSl, tBM, tPar, tPar3, tTruth, tDNewK,
  L2.start, List.map_cons, List.map_nil, List.length_cons, List.length_nil, List.replicate_succ, List.replicate_zero, List.append_nil, List.nil_append, List.cons_append, List.singleton_append, Nat.sub_self, Nat.zero_add, Nat.reduceAdd, Nat.reduceSub,
  List.getElem?_cons_zero, List.getElem?_cons_succ, List.set_cons_zero, List.set_cons_succ, Option.some.injEq, exists_eq_left, exists_eq_left', V.int.injEq, V.bl.injEq, V.str.injEq, V.ref.injEq,
  uAdd_int, uAdd_str, uSub_int, uMul_int, uMul_str, uDiv_int, uMod_int, uPow_int, uLt_int, uLe_int, uGt_int, uGe_int, uIs_non, uNis_non, uIs_bl, uNis_bl, sp1, sp2, sp3, sp4, uEq_int, uEq_str, uNe_int, uNe_str, uSl_str, uLen_str, decide_eq_true_eq])
local macro_rules | `(tactic| walk_at "s") => `(tactic| ((try dsimp only [turnE]); with_reducible refine seq_ ?_))

/-- a list of turned sixes -/
theorem turned_all {l : Addr} {gs : List (Nat → Nat → Int)} {t : TE} {j : Nat} {σ : L2.St} {Q : VK} (hl : PrB K H l (gs.map six)) (few : gs.length ≤ 1000) (ht : ∀ P : VK, P (.ref l) H → t σ H P) (hj : j < σ.length)
    (q : ∀ D H', Same H H' → H D = none → PrB K H' D (gs.map fun g => six fun i j => g j i) → Q (.ref D) H') : tLc (iSeq K t) (gName j) tYes (tFn (sp_turned K) E0 (tCons (tVar j) tNil)) [j] σ H Q := by
  obtain ⟨bs, h1, h2, h3⟩ := hl
  refine tLc_inN (ht _ ⟨l, rfl, ⟨_, .inl (.inl h1)⟩, fun D hD => ?_⟩)
  rw [List.length_map] at h2
  refine lc_freshO (plain_L (K := K) (a := l) (xs := bs.map V.ref)) (fun k => .tup (iV (six fun i j => ((gs[k]?).getD fun _ _ => 0) j i))) hD (by rw [List.length_map, h2]; exact few) (fun H' s => .inl (.inl (s _ _ h1))) ?_ ?_
  · intro i x H2 Q2 hx s2 go
    rw [List.getElem?_map] at hx
    obtain ⟨b, hb, rfl⟩ := Option.map_eq_some_iff.mp hx
    have li : i < gs.length := by rw [← h2]; exact (List.getElem?_eq_some_iff.mp hb).1
    have hg : gs[i]? = some gs[i] := List.getElem?_eq_getElem li
    refine ⟨.ref b, ?_, b, gs[i], rfl, Same.sqT s2 (h3 i b (six gs[i]) hb (by rw [List.getElem?_map, hg]; rfl)), fun r H3 s3 nr gr => go r H3 nr s3 ?_⟩
    · rw [List.getElem?_set_self hj]
    · rw [hg]
      exact gr
  · intro H2 ls s2 hl2 gD at_ _ _ _
    refine q D H2 s2 hD ⟨ls, gD, by rw [hl2, List.length_map, List.length_map, h2], fun i b z z1 z2 => ?_⟩
    rw [List.getElem?_map] at z2
    obtain ⟨g, hg, rfl⟩ := Option.map_eq_some_iff.mp z2
    have := at_ i b z1
    rw [hg] at this
    exact .inl (.inl this)
include F R in
theorem read_Reckoning_backwards (h : sp_Reckoning_backwards K vs H Q E) : t_Reckoning_backwards K E { nx := fun _ H' => Q .non H', rt := Q } (start ["self", "prices", "six"] vs) H := by
  match vs, h with
  | [_], ⟨a, B, qs, lp, lt, rfl, ⟨dx, bk, ga, kb⟩, p1, p2, h60, h6, q⟩ =>
    unfold t_Reckoning_backwards
    walk_at "s"
    walk_at "1"
    refine ⟨a, _, dx, _, bk, rfl, ga, R.cl, R.back, rfl, ?_⟩
    rcases kb with rfl | ⟨b, rfl, rb⟩
    · rw [if_pos rfl]
      have e1 : (qs.map fnOf).map six = qs := by
        rw [List.map_map]
        exact (List.map_congr_left (g := id) fun w m => six_fn (h6 w m)).trans (List.map_id qs)
      have e2 : towersL qs = ((List.range (qs.length + 1)).map (levelQ qs)).map six := by
        unfold towersL
        rw [List.map_map]
        rfl
      walk_at "s"
      refine turned_all (l := lp) (gs := qs.map fnOf) (e1.symm ▸ p1) (by rw [List.length_map]; omega) (fun P z => ⟨.ref a, rfl, a, _, dx, _, .ref lp, rfl, ga, R.cl, R.prices, rfl, z⟩) (Nat.lt_succ_self 2) fun D1 H1 s1 n1 r1 => ?_
      have eD1 : ((qs.map fnOf).map fun g => six fun i j => g j i) = qs.map turnQ := by
        rw [List.map_map]
        rfl
      rw [eD1] at r1
      have ga1 := s1 _ _ ga
      simp only [gName, List.set_cons_zero, List.set_cons_succ, sFld, tMake]
      walk_at "1"
      refine ⟨a, _, dx, _, .int B, rfl, ga1, R.cl, R.bound, rfl, ?_⟩
      refine turned_all (l := lt) (gs := (List.range (qs.length + 1)).map (levelQ qs)) (e2 ▸ p2.same s1) (by rw [List.length_map, List.length_range]; omega) (fun P z => ⟨.ref a, rfl, a, _, dx, _, .ref lt, rfl, ga1, R.cl, R.towers, rfl, z⟩) (Nat.lt_succ_self 2) fun D2 H2 s2 n2 r2 => ?_
      have eD2 : (((List.range (qs.length + 1)).map (levelQ qs)).map fun g => six fun i j => g j i) = towersL (qs.map turnQ) := by
        unfold towersL
        rw [List.map_map, List.length_map]
        refine List.map_congr_left fun k mk => six_congr fun i j hi hj n => (levelQ_turn k ?_ i j hi hj n).symm
        have := List.mem_range.mp mk
        omega
      rw [eD2] at r2
      have r1 := r1.same s2
      have s12 := s1.trans s2
      refine fun y dy ny nd ne => ?_
      have s3 : Same H2 (upd (upd H2 dy (.own y)) y (.ins (He.ga K "Reckoning") dy [])) := fun b o e => by
        rw [upd_ne (ne_of_none e ny), upd_ne (ne_of_none e nd)]
        exact e
      have gy : upd (upd H2 dy (.own y)) y (.ins (He.ga K "Reckoning") dy []) y = some (.ins (He.ga K "Reckoning") dy []) := upd_same
      generalize upd (upd H2 dy (.own y)) y (.ins (He.ga K "Reckoning") dy []) = H3 at *
      refine ⟨y, dy, B, rfl, rfl, gy, fun H4 o4 g4 => ⟨rfl, ?_⟩⟩
      have s24 : Same H2 H4 := (Off.trans (Same.off s3) o4).same ny
      have s14 := s12.trans s24
      have ga4 := s14 _ _ ga
      have ya : y ≠ a := by rintro rfl; rw [s12 _ _ ga] at ny; cases ny
      refine ⟨a, _, dx, _, rfl, ga4, R.cl, R.back, by show (4 : Nat) < 1000; decide, ?_⟩
      have ep : putF "_backwards" (.ref y) (rkF B (.ref lp) (.ref lt) .non) = rkF B (.ref lp) (.ref lt) (.ref y) := rfl
      rw [ep]
      have o5 : Off a H4 (upd H4 a (.ins (He.ga K "Reckoning") dx (rkF B (.ref lp) (.ref lt) (.ref y)))) := off_upd
      have g5 : upd H4 a (.ins (He.ga K "Reckoning") dx (rkF B (.ref lp) (.ref lt) (.ref y))) a = some (.ins (He.ga K "Reckoning") dx (rkF B (.ref lp) (.ref lt) (.ref y))) := upd_same
      generalize upd H4 a (.ins (He.ga K "Reckoning") dx (rkF B (.ref lp) (.ref lt) (.ref y))) = H5 at *
      have back : RkN0 K H5 y B (qs.map turnQ) := ⟨D1, D2, ⟨dy, _, o5 _ _ ya g4⟩, (r1.same s24).off o5 ga4, (r2.same s24).off o5 ga4⟩
      refine ⟨a, _, dx, _, .ref y, rfl, g5, R.cl, R.back, rfl, ?_⟩
      exact q y H5 (Off.trans (Same.off s14) o5) ⟨dx, _, g5, .inr ⟨y, rfl, back⟩⟩ ((p1.same s14).off o5 ga4) ((p2.same s14).off o5 ga4) back
    · rw [if_neg (by simp)]
      refine ⟨a, _, dx, _, .ref b, rfl, ga, R.cl, R.back, rfl, ?_⟩
      exact q b H Off.refl ⟨dx, _, ga, .inr ⟨b, rfl, rb⟩⟩ p1 p2 rb
end
end U
namespace U
open PySem PySem.Spec PyProof.Rows L2

/-! ### a reckoning by its numbers, whatever it keeps -/
def RkM (K : PySem.W.Frag) (H : Hp) (a : Addr) (B : Int) (qs : List (List Int)) : Prop := ∃ lp lt : Addr, (∃ dx bk, H a = some (.ins (He.ga K "Reckoning") dx (rkF B (.ref lp) (.ref lt) bk)) ∧ Bk K H bk B qs) ∧ PrB K H lp qs ∧ PrB K H lt (towersL qs) ∧ qs.length ≤ 60 ∧ ∀ q ∈ qs, q.length = 6
/-- the levels of a start -/
def Lvls (K : PySem.W.Frag) (H : Hp) (l : Addr) (qs : List (List Int)) (ds : List Nat) : Prop := ∃ cs : List Addr, H l = some (.lst (cs.map V.ref)) ∧ cs.length = ds.length + 1 ∧ ∀ (k : Nat) (c : Addr), cs[k]? = some c → SqT K H c (iV (three (toQ qs ds.reverse k)))
def sp_Reckoning_from_towers (K : PySem.W.Frag) : Sp := sp2 fun x y H Q _ => ∃ a B qs ds, x = .ref a ∧ y = .str (wd ds) ∧ RkM K H a B qs ∧ D3 ds ∧ ds.length ≤ qs.length ∧ ∀ (l : Addr) (H' : Hp), Off a H H' → RkM K H' a B qs → Lvls K H' l (qs.map turnQ) ds → Q (.ref l) H'
def t_Reckoning_from_towers (K : PySem.W.Frag) (E : XK) : TS := (tRet (tMeth (He.ga K "Reckoning") "to_towers" (sp_Reckoning_to_towers K) [] E (tMeth (He.ga K "Reckoning") "backwards" (sp_Reckoning_backwards K) [] E (tVar 0) tNil) (tCons (tVar 1) tNil)))
section
variable {K : PySem.W.Frag} (F : KF K) (R : KR K) {vs : List V} {H : Hp} {Q : VK} {E : XK}
local macro_rules | `(tactic| walk_at "w") => `(tactic| try simp only [turnE, lcT, Snoc, tRet, tRetN, tAndV, tOrV, tNotV, tCB, tCons, tVar, tNil, tC, tOp, tSeq, tAsg, gName, gSub, tIfS, tDrop, tFn, tTup, tLst, tNext, tB, tTest, tNot, tAnd, tOr, tIf, tChain, tUn, rU, tFld, tPart, tNoPart, L2.tSl, tBM, tPar, tPar3, tTruth, tDNewK,
  L2.start, List.map_cons, List.map_nil, List.length_cons, List.length_nil, List.replicate_succ, List.replicate_zero, List.append_nil, List.nil_append, List.cons_append, List.singleton_append, Nat.sub_self, Nat.zero_add, Nat.reduceAdd, Nat.reduceSub,
  List.getElem?_cons_zero, List.getElem?_cons_succ, List.set_cons_zero, List.set_cons_succ, Option.some.injEq, exists_eq_left, exists_eq_left', V.int.injEq, V.bl.injEq, V.str.injEq, V.ref.injEq,
  uAdd_int, uAdd_str, uSub_int, uMul_int, uMul_str, uDiv_int, uMod_int, uPow_int, uLt_int, uLe_int, uGt_int, uGe_int, uIs_non, uNis_non, uIs_bl, uNis_bl, sp1, sp2, sp3, sp4, uEq_int, uEq_str, uNe_int, uNe_str, uSl_str, uLen_str, decide_eq_true_eq])
local macro_rules | `(tactic| walk_at "1") => `(tactic| try simp only [turnE, lcT, Snoc, tRet, tRetN, tAndV, tOrV, tNotV, tCB, tCons, tVar, tNil, tC, tOp, tAsg, gName, gSub, tIfS, tDrop, tFn, tTup, tLst, tNext, tB, tTest, tNot, tAnd, tOr, tIf, tChain, tUn, rU, tFld, tPart, tNoPart, L2.tSl, tBM, tPar, tPar3, tTruth, tDNewK,
  L2.start, List.map_cons, List.map_nil, List.length_cons, List.length_nil, List.replicate_succ, List.replicate_zero, List.append_nil, List.nil_append, List.cons_append, List.singleton_append, Nat.sub_self, Nat.zero_add, Nat.reduceAdd, Nat.reduceSub,
  List.getElem?_cons_zero, List.getElem?_cons_succ, List.set_cons_zero, List.set_cons_succ, Option.some.injEq, exists_eq_left, exists_eq_left', V.int.injEq, V.bl.injEq, V.str.injEq, V.ref.injEq,
  uAdd_int, uAdd_str, uSub_int, uMul_int, uMul_str, uDiv_int, uMod_int, uPow_int, uLt_int, uLe_int, uGt_int, uGe_int, uIs_non, uNis_non, uIs_bl, uNis_bl, sp1, sp2, sp3, sp4, uEq_int, uEq_str, uNe_int, uNe_str, uSl_str, uLen_str, decide_eq_true_eq])
local macro_rules | `(tactic| walk_at "s") => `(tactic| ((try dsimp only [turnE]); with_reducible refine seq_ ?_))

theorem RkM.same {H' : Hp} {a : Addr} {B : Int} {qs : List (List Int)} (e : Same H H') (h : RkM K H a B qs) : RkM K H' a B qs := by
  obtain ⟨lp, lt, ⟨dx, bk, ga, kb⟩, p1, p2, l1, l2⟩ := h
  exact ⟨lp, lt, ⟨dx, bk, e _ _ ga, kb.same e⟩, p1.same e, p2.same e, l1, l2⟩
theorem RkM.n {a : Addr} {B : Int} {qs : List (List Int)} (h : RkM K H a B qs) : RkN K H a B qs := by
  obtain ⟨lp, lt, ⟨dx, bk, ga, kb⟩, p1, p2, l1, l2⟩ := h
  exact ⟨lp, lt, ⟨dx, bk, ga⟩, p1, p2, l2, l1⟩
theorem turn_len {qs : List (List Int)} : ∀ q ∈ qs.map turnQ, q.length = 6 := fun q m => by
  obtain ⟨w, _, rfl⟩ := List.mem_map.mp m
  rfl
include F R in
theorem read_Reckoning_from_towers (h : sp_Reckoning_from_towers K vs H Q E) : t_Reckoning_from_towers K E { nx := fun _ H' => Q .non H', rt := Q } (start ["self", "goals"] vs) H := by
  match vs, h with
  | [_, _], ⟨a, B, qs, ds, rfl, rfl, ⟨lp, lt, ⟨dx, bk, ga, kb⟩, p1, p2, l1, l2⟩, d3, hl, q⟩ =>
    unfold t_Reckoning_from_towers
    walk_at "1"
    refine ⟨.ref a, rfl, a, dx, _, rfl, ga, rfl, a, B, qs, lp, lt, rfl, ⟨dx, bk, ga, kb⟩, p1, p2, l1, l2, fun b H1 o1 ka q1 q2 rb => ?_⟩
    obtain ⟨lp2, lt2, ⟨d2, bk2, gb⟩, r1, r2⟩ := id rb
    refine ⟨b, d2, _, rfl, gb, rfl, .str (wd ds), rfl, ?_⟩
    refine ⟨b, B, qs.map turnQ, ds, rfl, rfl, ⟨lp2, lt2, ⟨d2, bk2, gb⟩, r1, r2, turn_len, by rw [List.length_map]; exact l1⟩, d3, by rw [List.length_map]; exact hl, fun l cs H2 s2 k1 k2 k3 => ?_⟩
    have ka2 : RkM K H1 a B qs := ⟨lp, lt, ka, q1, q2, l1, l2⟩
    exact q l H2 (Off.trans o1 (Same.off s2)) (ka2.same s2) ⟨cs, k1, k2, k3⟩
end
end U
namespace U
open PySem PySem.Spec PyProof.Rows L2

/-! ### the largest crate that moves -/
def firstA (ds es : List Nat) : Option Nat := (List.range ds.length).find? fun k => decide (ds[k]? ≠ es[k]?)
def crV : Option Nat → V
  | none => .non
  | some k => .int (k : Nat)
def sp_first_apart (K : PySem.W.Frag) : Sp := sp2 fun x y H Q _ => ∃ ds es, x = .str (wd ds) ∧ y = .str (wd es) ∧ D3 ds ∧ D3 es ∧ ds.length = es.length ∧ ds.length ≤ 60 ∧ ∀ H', Same H H' → Q (crV (firstA ds es)) H'
def t_first_apart (K : PySem.W.Frag) (E : XK) : TS := (tSeq (tFor (iEnumU K (tCons (tVar 0) tNil)) (gTup K 2 (gCons (gName 2) (gCons (gName 3) gNil))) (tIfS (tAnd (tTest (tOp (uNe K) (tVar 3) (tOp (uIx K) (tVar 1) (tVar 2)))) (tNot (tB (tCB (rAny K) (tCons (tLc (iStr (tVar 3)) (gName 4) tYes (tOp (uIn K false) (tVar 4) (tOp (uIx K) (tVar 1) (tVar 2))) [4]) tNil))))) (tRet (tVar 2)) tNext)) (tRet (tC .non)))
theorem for_enumS {ta : TA} {g : TG} {tb : TS} {D : Ends} {σ : L2.St} {H : Hp} {K : PySem.W.Frag} {z : Str} (ht : ta σ H fun vs H1 => vs = [.str z] ∧ H1 = H) (mono : ∀ R R' : List V → Hp → Prop, (∀ v h, R v h → R' v h) → ta σ H R → ta σ H R') (Pv : Nat → L2.St → Hp → Prop) (h0 : Pv 0 σ H)
    (hs : ∀ i c τ H' T, z.cps[i]? = some c → Pv i τ H' → H' T = none → g (.ref T) τ (upd H' T (.tup [.int (i : Nat), .str ⟨#[c]⟩])) fun ρ H2 => tb (turnE D (Pv (i + 1))) ρ H2) (hd : ∀ τ H', Pv z.cps.size τ H' → D.nx τ H') : tFor (iEnumU K ta) g tb D σ H := by
  refine .inr (mono _ _ (fun v h e => ?_) ht)
  obtain ⟨rfl, rfl⟩ := e
  refine ⟨z, rfl, ?_⟩
  refine ⟨fun i m τ H' => m = z.cps.size - i ∧ (i ≤ z.cps.size ∧ Pv i τ H'), ⟨_, rfl, Nat.zero_le _, h0⟩, ?_⟩
  rintro i m τ H' ⟨rfl, hi, p⟩
  by_cases lt : i < z.cps.size
  · refine .inr ⟨lt, Pv (i + 1), fun σ' H2 p' => ⟨z.cps.size - (i + 1), by omega, rfl, lt, p'⟩, fun v H2 yd => ?_⟩
    obtain ⟨T, c, rfl, nT, hc, rfl⟩ := yd
    exact hs i c τ H' T hc p nT
  · have e : i = z.cps.size := by omega
    subst e
    exact .inl ⟨rfl, hd τ H' p⟩
theorem first_none {ds es : List Nat} (h : ∀ k, k < ds.length → ds[k]? = es[k]?) : firstA ds es = none := by
  unfold firstA
  refine List.find?_eq_none.mpr fun k mk => ?_
  have := List.mem_range.mp mk
  rw [h k this]
  simp
theorem first_some {ds es : List Nat} {i : Nat} (hi : i < ds.length) (n : ds[i]? ≠ es[i]?) (h : ∀ k, k < i → ds[k]? = es[k]?) : firstA ds es = some i := by
  unfold firstA
  refine List.find?_range_eq_some.mpr ⟨by simpa using n, List.mem_range.mpr hi, fun j hj => ?_⟩
  rw [h j hj]
  simp
theorem apart_ab : ∀ d e : Fin 3, d ≠ e → (!(Builtin.Str.occurrences ⟨#[97 + e.val]⟩ ⟨#[97 + d.val]⟩ 0 1 1).isEmpty) = false := by decide +kernel
theorem at_natN {xs : List Nat} {k : Nat} {v : Nat} (h : xs[k]? = some v) : atI xs (k : Int) = some v := by
  have lt := (List.getElem?_eq_some_iff.mp h).1
  unfold atI ixN
  rw [if_pos (Int.natCast_nonneg k), if_pos (Int.ofNat_lt.mpr lt)]
  exact h
section
variable {K : PySem.W.Frag} (F : KF K) (R : KR K) {vs : List V} {H : Hp} {Q : VK} {E : XK}
local macro_rules | `(tactic| walk_at "w") => `(tactic| try simp only [turnE, lcT, Snoc, tRet, tRetN, tAndV, tOrV, tNotV, tCB, tCons, tVar, tNil, tC, tOp, tSeq, tAsg, gName, gSub, tIfS, tDrop, tFn, tTup, tLst, tNext, tB, tTest, tNot, tAnd, tOr, tIf, tChain, tUn, rU, tFld, tPart, tNoPart, L2.tSl, tBM, tPar, tPar3, tTruth, tDNewK,
  L2.start, List.map_cons, List.map_nil, List.length_cons, List.length_nil, List.replicate_succ, List.replicate_zero, List.append_nil, List.nil_append, List.cons_append, List.singleton_append, Nat.sub_self, Nat.zero_add, Nat.reduceAdd, Nat.reduceSub,
  List.getElem?_cons_zero, List.getElem?_cons_succ, List.set_cons_zero, List.set_cons_succ, Option.some.injEq, exists_eq_left, exists_eq_left', V.int.injEq, V.bl.injEq, V.str.injEq, V.ref.injEq,
  uAdd_int, uAdd_str, uSub_int, uMul_int, uMul_str, uDiv_int, uMod_int, uPow_int, uLt_int, uLe_int, uGt_int, uGe_int, uIs_non, uNis_non, uIs_bl, uNis_bl, sp1, sp2, sp3, sp4, uEq_int, uEq_str, uNe_int, uNe_str, uSl_str, uLen_str, decide_eq_true_eq])
local macro_rules | `(tactic| walk_at "1") => `(tactic| try simp only [turnE, lcT, Snoc, tRet, tRetN, tAndV, tOrV, tNotV, tCB, tCons, tVar, tNil, tC, tOp, tAsg, gName, gSub, tIfS, tDrop, tFn, tTup, tLst, tNext, tB, tTest, tNot, tAnd, tOr, tIf, tChain, tUn, rU, tFld, tPart, tNoPart, L2.tSl, tBM, tPar, tPar3, tTruth, tDNewK,
  L2.start, List.map_cons, List.map_nil, List.length_cons, List.length_nil, List.replicate_succ, List.replicate_zero, List.append_nil, List.nil_append, List.cons_append, List.singleton_append, Nat.sub_self, Nat.zero_add, Nat.reduceAdd, Nat.reduceSub,
  List.getElem?_cons_zero, List.getElem?_cons_succ, List.set_cons_zero, List.set_cons_succ, Option.some.injEq, exists_eq_left, exists_eq_left', V.int.injEq, V.bl.injEq, V.str.injEq, V.ref.injEq,
  uAdd_int, uAdd_str, uSub_int, uMul_int, uMul_str, uDiv_int, uMod_int, uPow_int, uLt_int, uLe_int, uGt_int, uGe_int, uIs_non, uNis_non, uIs_bl, uNis_bl, sp1, sp2, sp3, sp4, uEq_int, uEq_str, uNe_int, uNe_str, uSl_str, uLen_str, decide_eq_true_eq])
local macro_rules | `(tactic| walk_at "s") => `(tactic| ((try dsimp only [turnE]); with_reducible refine seq_ ?_))

include F in
theorem read_first_apart (h : sp_first_apart K vs H Q E) : t_first_apart K E { nx := fun _ H' => Q .non H', rt := Q } (start ["starts", "goals", "crate", "places", "place"] vs) H := by
  match vs, h with
  | [_, _], ⟨ds, es, rfl, rfl, d3, e3, same, l60, q⟩ =>
    unfold t_first_apart
    have sz : (wd ds).cps.size = ds.length := wd_length ds
    walk_at "s"
    refine for_enumS (z := wd ds) ⟨.str (wd ds), rfl, rfl, rfl⟩ (fun R R' im h => by obtain ⟨v, e, h⟩ := h; exact ⟨v, e, im _ _ h⟩) (fun i τ H' => (∃ o2 o3 o4, τ = [some (.str (wd ds)), some (.str (wd es)), o2, o3, o4]) ∧ Same H H' ∧ ∀ k, k < i → ds[k]? = es[k]?)
      ⟨⟨_, _, _, rfl⟩, Same.refl _, fun k z => absurd z (Nat.not_lt_zero k)⟩ ?_ ?_
    · rintro i c τ H2 T hc ⟨⟨o2, o3, o4, rfl⟩, s2, al⟩ nT
      obtain ⟨d, hd, rfl⟩ := wd_cp hc
      have li := (List.getElem?_eq_some_iff.mp hd).1
      obtain ⟨e, he⟩ : ∃ e, es[i]? = some e := ⟨_, List.getElem?_eq_getElem (by omega)⟩
      refine pair_in upd_same ?_
      have s3 : Same H (upd H2 T (.tup [.int (i : Nat), .str ⟨#[97 + d]⟩])) := s2.trans (same_new nT)
      generalize upd H2 T (.tup [.int (i : Nat), .str ⟨#[97 + d]⟩]) = H3 at *
      simp only [List.set_cons_zero, List.set_cons_succ]
      walk_at "1"
      have ld := d3 d (List.mem_of_getElem? hd)
      have le := e3 e (List.mem_of_getElem? he)
      have at_e : ∀ {Q2 : VK} {H4 : Hp}, Q2 (.str ⟨#[97 + e]⟩) H4 → uIx K (.str (wd es)) (.int (i : Nat)) H4 Q2 := fun z => by
        refine uIx_str (c := 97 + e) (by rw [wd_length, sizeLine_eq]; omega) (at_natN ?_) z
        unfold wd
        rw [List.getElem?_map, he]
        rfl
      refine at_e ?_
      walk_at "1"
      by_cases de : d = e
      · subst de
        rw [if_neg (by simp), if_neg (by decide)]
        refine ⟨⟨_, _, _, rfl⟩, s3, fun k lk => ?_⟩
        by_cases ek : k = i
        · rw [ek, hd, he]
        · exact al k (by omega)
      · rw [if_pos (by simpa using de)]
        refine tLc_str (z := ⟨#[97 + d]⟩) (tVar_eq rfl) fun D hD => ?_
        refine lc_grow plain_S (fun acc _ => acc = (List.replicate acc.length false).map V.bl) hD (by show 1 ≤ sizeLine; decide) (fun _ _ => trivial) (fun _ _ => rfl) (fun _ _ _ _ _ _ z => z) ?_ ?_
        · intro k x acc H4 Q4 hx s4 hl r go
          have ex : x = .str ⟨#[97 + d]⟩ := by
            match k, hx with
            | 0, hx => cases hx; rfl
          subst ex
          walk_at "1"
          refine at_e ?_
          show Q4 (.bl _) H4
          have off : (!(Builtin.Str.occurrences ⟨#[97 + e]⟩ ⟨#[97 + d]⟩ 0 1 1).isEmpty) = false := apart_ab ⟨d, ld⟩ ⟨e, le⟩ fun z => de (congrArg Fin.val z)
          refine (show Q4 (.bl (!(Builtin.Str.occurrences ⟨#[97 + e]⟩ ⟨#[97 + d]⟩ 0 1 1).isEmpty)) H4 from ?_)
          rw [off]
          refine go _ H4 (Same.refl _) ?_
          rw [List.length_append, List.length_singleton, List.replicate_succ', List.map_append, ← r]
          rfl
        · intro acc H4 hl s4 gD r
          rw [r] at gD
          refine ⟨D, _, rfl, .inl (.inl gD), _, rfl, ?_⟩
          rw [show (List.replicate acc.length false).any id = false from by simp, if_pos (by decide)]
          have := q H4 (s3.trans s4)
          rw [first_some li (by rw [hd, he]; exact fun z => de (Option.some.inj z)) al] at this
          exact this
    · rintro τ H2 ⟨⟨o2, o3, o4, rfl⟩, s2, al⟩
      have := q H2 s2
      rw [first_none fun k lk => al k (by rw [sz]; exact lk)] at this
      exact this
end
end U
namespace U
open PySem PySem.Spec PyProof.Rows L2

/-! ### min of a tuple of numbers -/
def rMinT (K : PySem.W.Frag) : List V → Hp → VK → Prop := fun xs H Q => ∃ (a : Addr) (n : Int) (ns : List Int), xs = [.ref a] ∧ SqT K H a ((n :: ns).map V.int) ∧ Q (.int (ns.foldl min n)) H
theorem call_minT {X : Cx} (hc : X.calm = true) (hu : X.A.units + 64 < cLine) : CallR X (.builtin "min") (rMinT X.K) := by
  intro ps s σ H xs us Q I r h
  obtain ⟨a, n, ns, rfl, hs, q⟩ := h
  obtain ⟨its, rv, ht, _⟩ := I.tuple hs
  rw [Vals.ref1 r]
  have dep : ∀ l : List Int, PyData.depthAll (l.map PyData.int) = 0 := fun l => by
    induction l with
    | nil => simp [PyData.depthAll]
    | cons x t ih => simp [PyData.depthAll, PyData.depth, ih]
  have rd : ReadsAll s.heap its.toArray.toList (((n :: ns)).map PyData.int) [] := by simpa using reads_ints rv
  refine PySem.W.min_tuple_data (x := .int n) (xs := ns.map PyData.int) (I.ok.hd hc) (show s.heap.IsTuple a its.toArray from ht) rd ⟨fun x mx y my => ?_, fun x mx => ?_⟩ (by rw [show (PyData.int n :: ns.map PyData.int) = (n :: ns).map PyData.int from rfl, dep]; omega) (fun i v h' tk bs _ rr k => ?_)
  · obtain ⟨i, _, rfl⟩ := List.mem_map.mp (show x ∈ (n :: ns).map PyData.int from mx)
    obtain ⟨j, _, rfl⟩ := List.mem_map.mp (show y ∈ (n :: ns).map PyData.int from my)
    rfl
  · obtain ⟨i, _, rfl⟩ := List.mem_map.mp (show x ∈ (n :: ns).map PyData.int from mx)
    exact fun z => nomatch z
  · rw [PySem.W.minD_ints] at rr
    cases rr with
    | int _ u => exact ⟨.int _, H, I.kept (t' := tk) k, ⟨u, rfl⟩, q⟩
/-! ### != of two dicts that hold the same -/
def rNeDK : R2 := fun x y H Q => ∃ (a b : Addr) (kvs : List (Key × V)), x = .ref a ∧ y = .ref b ∧ H a = some (.dK kvs) ∧ H b = some (.dK kvs) ∧ (∀ p ∈ kvs, flatPI p.2 = true) ∧ (kvs.map (·.1)).Nodup ∧ Q (.bl false) H
theorem op_neDK {X : Cx} (hu : X.A.units + 64 < cLine) : OpR X (compareOp .NotEq) rNeDK := by
  (intro pins s σ H x y v u Q I rx ry h)
  obtain ⟨a, b, kvs, rfl, rfl, ha, hb, fl, nd, q⟩ := h
  cases rx
  cases ry
  obtain ⟨_, ma, va, ra, da⟩ := dk_of I.hok ha
  obtain ⟨_, mb, vb, rb, db⟩ := dk_of I.hok hb
  have same : va.length = vb.length := by rw [← KV.length ra, ← KV.length rb]
  have hits : ∀ r : List (Key × Value), (∀ p ∈ r, p ∈ va) → PySem.W.KeqHits X.A.in1 s vb r true := by
    intro r
    induction r with
    | nil => exact fun _ => .nil
    | cons p t ih =>
      intro hr
      obtain ⟨k, v⟩ := p
      obtain ⟨i, lt, ei⟩ := List.mem_iff_getElem.mp (hr (k, v) List.mem_cons_self)
      obtain ⟨x, hx, rx⟩ := KV.at' ra (i := i) (k := k) (v := v) (by rw [← ei]; exact List.getElem?_eq_getElem lt)
      have mx := List.mem_of_getElem? hx
      have vx : valV kvs k = some x := L2.val_nodup nd _ mx
      have ry := rb.val k
      rw [vx] at ry
      cases hy : valueAt vb k with
      | none => rw [hy] at ry; exact (show False from ry).elim
      | some y =>
        rw [hy] at ry
        have ry : RelV x y := ry
        have fx := fl _ mx
        have eq : SeqAt.EqAt X.A.in1 s v y true := by
          cases x with
          | non =>
            cases (show v = Value.none from rx)
            cases (show y = Value.none from ry)
            exact .same _
          | int z =>
            obtain ⟨t, rfl⟩ := rx
            obtain ⟨u, rfl⟩ := ry
            have := SeqAt.EqAt.int_int (A := X.A.in1) (s := s) z t z u
            rwa [beq_self_eq_true] at this
          | _ => cases fx
        have := PySem.W.KeqHits.hit (b := true) hy eq (ih fun p m => hr p (List.mem_cons_of_mem _ m))
        simpa using this
  refine PySem.W.keq_ne ma mb da db (by omega) (fun _ => hits va fun p m => m) ?_
  rw [same]
  simp only [beq_self_eq_true, Bool.and_self, Bool.not_true]
  exact ⟨.bl false, H, I, rfl, q⟩
end U
namespace U
open PySem PySem.Spec PyProof.Rows L2

/-! ### the least cost between two arrangements -/
def cheapQ (qs : List (List Int)) (ds es : List Nat) : Int := match firstA ds es with
  | none => 0
  | some k => min (bl1 (fnOf ((qs[ds.length - 1 - k]?).getD [])) (toQ qs (ds.drop (k + 1)).reverse (ds.length - 1 - k)) (toQ (qs.map turnQ) (es.drop (k + 1)).reverse (ds.length - 1 - k)) ((ds[k]?).getD 0) ((es[k]?).getD 0))
      (bl2 (fnOf ((qs[ds.length - 1 - k]?).getD [])) (levelQ qs (ds.length - 1 - k)) (toQ qs (ds.drop (k + 1)).reverse (ds.length - 1 - k)) (toQ (qs.map turnQ) (es.drop (k + 1)).reverse (ds.length - 1 - k)) ((ds[k]?).getD 0) ((es[k]?).getD 0))
def sp_Reckoning_cheapest (K : PySem.W.Frag) : Sp := sp3 fun x y z H Q _ => ∃ a B qs ds es, x = .ref a ∧ y = .str (wd ds) ∧ z = .str (wd es) ∧ RkM K H a B qs ∧ D3 ds ∧ D3 es ∧ ds.length = qs.length ∧ es.length = qs.length ∧ ∀ H', Off a H H' → RkM K H' a B qs → Q (.int (cheapQ qs ds es)) H'
def t_Reckoning_cheapest (K : PySem.W.Frag) (E : XK) : TS := (tSeq (tAsg (tFn (sp_first_apart K) E (tCons (tVar 1) (tCons (tVar 2) tNil))) (gName 3)) (tSeq (tIfS (tTest (tOp uIs (tVar 3) (tC .non))) (tRet (tC (.int 0))) tNext) (tSeq (tAsg (tOp uSub (tOp uSub (tCB (uLen K) (tCons (tVar 1) tNil)) (tC (.int 1))) (tVar 3)) (gName 4)) (tSeq (tAsg (tTup (tCons (tOp (uIx K) (tFld K (tVar 0) "prices") (tVar 4)) (tCons (tOp (uIx K) (tFld K (tVar 0) "towers") (tVar 4)) tNil))) (gTup K 2 (gCons (gName 5) (gCons (gName 6) gNil)))) (tSeq (tAsg (tOp (uIx K) (tMeth (He.ga K "Reckoning") "to_towers" (sp_Reckoning_to_towers K) [] E (tVar 0) (tCons (tSl (uSl K) (tVar 1) (tPart (tOp uAdd (tVar 3) (tC (.int 1)))) tNoPart) tNil)) (tUn (rU fun i => .int (-i)) (tC (.int 1)))) (gName 7)) (tSeq (tAsg (tOp (uIx K) (tMeth (He.ga K "Reckoning") "from_towers" (sp_Reckoning_from_towers K) [] E (tVar 0) (tCons (tSl (uSl K) (tVar 2) (tPart (tOp uAdd (tVar 3) (tC (.int 1)))) tNoPart) tNil)) (tUn (rU fun i => .int (-i)) (tC (.int 1)))) (gName 8)) (tRet (tCB (rMin K) (tCons (tLc2 (iStr (tOp (uIx K) (tVar 1) (tVar 3))) (gName 9) tYes (iStr (tOp (uIx K) (tVar 2) (tVar 3))) (gName 10) tYes (tCB (rMinT K) (tCons (tFn (sp_both_lines K) E0 (tCons (tOp uAdd (tVar 9) (tVar 10)) (tCons (tVar 5) (tCons (tVar 6) (tCons (tVar 7) (tCons (tVar 8) tNil)))))) tNil)) [9, 10] [10]) tNil)))))))))
section
variable {K : PySem.W.Frag} (F : KF K) (R : KR K) {vs : List V} {H : Hp} {Q : VK} {E : XK}
local macro_rules | `(tactic| walk_at "w") => `(tactic| try simp only [turnE, lcT, Snoc, tRet, tRetN, tAndV, tOrV, tNotV, tCB, tCons, tVar, tNil, tC, tOp, tSeq, tAsg, gName, gSub, tIfS, tDrop, tFn, tTup, tLst, tNext, tB, tTest, tNot, tAnd, tOr, tIf, tChain, tUn, rU, tFld, tPart, tNoPart, L2.tSl, tBM, tPar, tPar3, tTruth, tDNewK,
  L2.start, List.map_cons, List.map_nil, List.length_cons, List.length_nil, List.replicate_succ, List.replicate_zero, List.append_nil, List.nil_append, List.cons_append, List.singleton_append, Nat.sub_self, Nat.zero_add, Nat.reduceAdd, Nat.reduceSub,
  List.getElem?_cons_zero, List.getElem?_cons_succ, List.set_cons_zero, List.set_cons_succ, Option.some.injEq, exists_eq_left, exists_eq_left', V.int.injEq, V.bl.injEq, V.str.injEq, V.ref.injEq,
  uAdd_int, uAdd_str, uSub_int, uMul_int, uMul_str, uDiv_int, uMod_int, uPow_int, uLt_int, uLe_int, uGt_int, uGe_int, uIs_non, uNis_non, uIs_bl, uNis_bl, sp1, sp2, sp3, sp4, uEq_int, uEq_str, uNe_int, uNe_str, uSl_str, uLen_str, decide_eq_true_eq])
local macro_rules | `(tactic| walk_at "1") => `(tactic| try simp only [turnE, lcT, Snoc, tRet, tRetN, tAndV, tOrV, tNotV, tCB, tCons, tVar, tNil, tC, tOp, tAsg, gName, gSub, tIfS, tDrop, tFn, tTup, tLst, tNext, tB, tTest, tNot, tAnd, tOr, tIf, tChain, tUn, rU, tFld, tPart, tNoPart, L2.tSl, tBM, tPar, tPar3, tTruth, tDNewK,
  L2.start, List.map_cons, List.map_nil, List.length_cons, List.length_nil, List.replicate_succ, List.replicate_zero, List.append_nil, List.nil_append, List.cons_append, List.singleton_append, Nat.sub_self, Nat.zero_add, Nat.reduceAdd, Nat.reduceSub,
  List.getElem?_cons_zero, List.getElem?_cons_succ, List.set_cons_zero, List.set_cons_succ, Option.some.injEq, exists_eq_left, exists_eq_left', V.int.injEq, V.bl.injEq, V.str.injEq, V.ref.injEq,
  uAdd_int, uAdd_str, uSub_int, uMul_int, uMul_str, uDiv_int, uMod_int, uPow_int, uLt_int, uLe_int, uGt_int, uGe_int, uIs_non, uNis_non, uIs_bl, uNis_bl, sp1, sp2, sp3, sp4, uEq_int, uEq_str, uNe_int, uNe_str, uSl_str, uLen_str, decide_eq_true_eq])
local macro_rules | `(tactic| walk_at "s") => `(tactic| ((try dsimp only [turnE]); with_reducible refine seq_ ?_))

theorem firstA_lt {ds es : List Nat} {k : Nat} (h : firstA ds es = some k) : k < ds.length ∧ ds[k]? ≠ es[k]? ∧ ∀ j, j < k → ds[j]? = es[j]? := by
  unfold firstA at h
  obtain ⟨h1, h2, h3⟩ := List.find?_range_eq_some.mp h
  refine ⟨List.mem_range.mp h2, of_decide_eq_true h1, fun j hj => ?_⟩
  have := h3 j hj
  simpa using this
theorem str_one {ds : List Nat} {k d : Nat} (h : ds.length ≤ 60) (hk : ds[k]? = some d) (q : Q (.str (wd [d])) H) : uIx K (.str (wd ds)) (.int (k : Nat)) H Q := by
  have e : ds[k]? = some d := hk
  refine uIx_str (c := 97 + d) (Nat.le_trans (by rw [wd_length]; exact h) (by decide)) ?_ q
  have lt := (List.getElem?_eq_some_iff.mp hk).1
  refine at_natN' ?_
  show (wd ds).cps.toList[k]? = _
  simp [wd, hk]
where
  at_natN' {xs : List Nat} {k : Nat} {v : Nat} (h : xs[k]? = some v) : atI xs (k : Int) = some v := at_natN h
/-- one sign, one turn -/
theorem laps_one {i : Nat} {H0 : Hp} {fin : Hp → Prop} {B : V → Hp → (Hp → Prop) → Prop} (h : ∀ N : Hp → Prop, (∀ H, fin H → N H) → B (.str (pl i)) H0 N) : Laps (Its (wd [i])) H0 fin B := by
  have e : strL (wd [i]) = [V.str (pl i)] := by rw [strL_wd]; rfl
  refine it_plain (plain_S (z := wd [i])) (fun k H => (k = 0 ∧ H = H0) ∨ (k = 1 ∧ fin H)) (.inl ⟨rfl, rfl⟩) (fun _ _ _ => trivial) ?_ ?_
  · rintro k x H hx (⟨rfl, rfl⟩ | ⟨rfl, _⟩)
    · rw [e] at hx
      cases hx
      exact h _ fun H f => .inr ⟨rfl, f⟩
    · rw [e] at hx
      cases hx
  · rintro H (⟨z, _⟩ | ⟨_, f⟩)
    · rw [e] at z
      cases z
    · exact f
include F R in
theorem read_Reckoning_cheapest (h : sp_Reckoning_cheapest K vs H Q E) : t_Reckoning_cheapest K E { nx := fun _ H' => Q .non H', rt := Q } (start ["self", "starts", "goals", "crate", "rest", "prices", "towers", "to_towers", "from_towers", "here", "there"] vs) H := by
  match vs, h with
  | [_, _, _], ⟨a, B, qs, ds, es, rfl, rfl, rfl, hk, d3, e3, ld, le, q⟩ =>
    obtain ⟨lp, lt, ⟨dx, bk, ga, kb⟩, ⟨bs, b1, b2, b3⟩, ⟨ts, c1, c2, c3⟩, h60, h6⟩ := id hk
    unfold t_Reckoning_cheapest
    walk_at "s"
    walk_at "1"
    refine ⟨ds, es, rfl, rfl, d3, e3, by omega, by omega, fun H1 s1 => ?_⟩
    unfold cheapQ at q
    cases hf : firstA ds es with
    | none =>
      rw [hf] at q
      walk_at "1"
      show tSeq _ _ _ _ _
      walk_at "s"
      walk_at "1"
      exact q H1 (Same.off s1) (hk.same s1)
    | some k =>
      rw [hf] at q
      rw [show crV (some k) = V.int ((k : Nat) : Int) from rfl]
      obtain ⟨lk, ndk, _⟩ := firstA_lt hf
      have hd : ds[k]? = some ds[k] := List.getElem?_eq_getElem lk
      have he : es[k]? = some (es[k]'(by omega)) := List.getElem?_eq_getElem (by omega)
      have dlt : ds[k] < 3 := d3 _ (List.getElem_mem lk)
      have elt : es[k]'(by omega) < 3 := e3 _ (List.getElem_mem _)
      rw [hd, he] at ndk
      simp only [hd, he, Option.getD_some] at q
      generalize ds[k] = i at *
      generalize es[k]'(by omega) = j at *
      have nij : i ≠ j := fun z => ndk (by rw [z])
      obtain ⟨r, hr⟩ : ∃ r, r = ds.length - 1 - k := ⟨_, rfl⟩
      rw [← hr] at q
      have lr : r < qs.length := by omega
      have hq : qs[r]? = some qs[r] := List.getElem?_eq_getElem lr
      rw [hq, Option.getD_some] at q
      have q6 : qs[r].length = 6 := h6 _ (List.getElem_mem lr)
      have hb : bs[r]? = some (bs[r]'(by omega)) := List.getElem?_eq_getElem _
      have lts : ts.length = qs.length + 1 := by
        rw [c2]
        unfold towersL
        (rw [List.length_map, List.length_range])
      have ht : ts[r]? = some (ts[r]'(by omega)) := List.getElem?_eq_getElem _
      have sb := b3 r _ _ hb hq
      have st := c3 r _ (six (levelQ qs r)) ht (by
        unfold towersL
        rw [List.getElem?_map, List.getElem?_range (by omega)]
        rfl)
      generalize bs[r]'(by omega) = b at *
      generalize ts[r]'(by omega) = t at *
      generalize qs[r] = w at *
      show tSeq _ _ _ _ _
      walk_at "s"
      walk_at "1"
      rw [if_neg (fun z => by cases z)]
      show tSeq _ _ _ _ _
      walk_at "s"
      walk_at "1"
      refine ⟨by rw [wd_length, sizeLine_eq]; omega, ?_⟩
      walk_at "1"
      rw [wd_length, show (ds.length : Int) - 1 - (k : Int) = (r : Nat) by omega]
      walk_at "s"
      simp only [tAsg, tTup, tCons, tNil]
      walk_at "1"
      refine ⟨a, _, dx, _, .ref lp, rfl, s1 _ _ ga, R.cl, R.prices, rfl, _, _, .inl (.inl (.inl (s1 _ _ b1))), at_nat (by rw [List.getElem?_map, hb]; rfl), ?_⟩
      refine ⟨a, _, dx, _, .ref lt, rfl, s1 _ _ ga, R.cl, R.towers, rfl, _, _, .inl (.inl (.inl (s1 _ _ c1))), at_nat (by rw [List.getElem?_map, ht]; rfl), ?_⟩
      refine ⟨by decide, fun T nT => ?_⟩
      have sT : Same H1 (upd H1 T (.tup [.ref b, .ref t])) := same_new nT
      have gT : upd H1 T (.tup [.ref b, .ref t]) T = some (.tup [.ref b, .ref t]) := upd_same
      have s2 := s1.trans sT
      generalize upd H1 T (.tup [.ref b, .ref t]) = H2 at *
      refine ⟨T, _, rfl, .inl (.inl gT), rfl, un1 (un1 (un0 ?_))⟩
      simp only [List.set_cons_zero, List.set_cons_succ]
      walk_at "s"
      walk_at "1"
      simp only [tMeth]
      walk_at "1"
      refine ⟨a, dx, _, rfl, s2 _ _ ga, rfl, ?_⟩
      walk_at "1"
      rw [show ((k : Nat) : Int) + 1 = ((k + 1 : Nat) : Int) by omega]
      refine ⟨by rw [wd_length, sizeLine_eq]; omega, ?_⟩
      rw [cut_from (ds := ds) (k := k + 1) (by omega)]
      refine ⟨a, B, qs, ds.drop (k + 1), rfl, rfl, (hk.same s2).n, fun x m => d3 x (List.mem_of_mem_drop m), by rw [List.length_drop]; omega, fun l cs H3 s3 gl lc at3 => ?_⟩
      have dl : (ds.drop (k + 1)).length = r := by rw [List.length_drop]; omega
      rw [dl] at lc
      have hcs : cs[r]? = some (cs[r]'(by omega)) := List.getElem?_eq_getElem _
      have u3 := at3 r _ hcs
      generalize cs[r]'(by omega) = c at *
      refine ⟨_, _, .inl (.inl (.inl gl)), at_end (n := r) (by rw [List.length_map, lc]) (by rw [List.getElem?_map, hcs]; rfl), ?_⟩
      have s23 := s2.trans s3
      walk_at "s"
      walk_at "1"
      simp only [tMeth]
      walk_at "1"
      refine ⟨a, dx, _, rfl, s23 _ _ ga, rfl, ?_⟩
      walk_at "1"
      rw [show ((k : Nat) : Int) + 1 = ((k + 1 : Nat) : Int) by omega]
      refine ⟨by rw [wd_length, sizeLine_eq]; omega, ?_⟩
      rw [cut_from (ds := es) (k := k + 1) (by omega)]
      have ga3 := s23 _ _ ga
      refine ⟨a, B, qs, es.drop (k + 1), rfl, rfl, hk.same s23, fun x m => e3 x (List.mem_of_mem_drop m), by rw [List.length_drop]; omega, fun l' H4 o4 k4 lv => ?_⟩
      obtain ⟨cs', gl', lc', at4⟩ := lv
      have el : (es.drop (k + 1)).length = r := by rw [List.length_drop]; omega
      rw [el] at lc'
      have hcs' : cs'[r]? = some (cs'[r]'(by omega)) := List.getElem?_eq_getElem _
      have v3 := at4 r _ hcs'
      generalize cs'[r]'(by omega) = c' at *
      refine ⟨_, _, .inl (.inl (.inl gl')), at_end (n := r) (by rw [List.length_map, lc']) (by rw [List.getElem?_map, hcs']; rfl), ?_⟩
      have sb4 := o4.sqT_ins ga3 (Same.sqT s23 sb)
      have st4 := o4.sqT_ins ga3 (Same.sqT s23 st)
      have u4 := o4.sqT_ins ga3 u3
      have oH : Off a H H4 := Off.trans (Same.off s23) o4
      walk_at "1"
      refine tLc2_of ?_
      refine (show ∃ v, _ ∧ _ from ⟨_, rfl, _, rfl, str_one (by omega) hd ?_⟩)
      refine ⟨wd [i], rfl, fun D nD => laps_one fun N hN => ?_⟩
      have sD : Same H4 (upd H4 D (.lst [])) := same_new nD
      have gD : upd H4 D (.lst []) D = some (.lst []) := upd_same
      generalize upd H4 D (.lst []) = H5 at *
      unfold lc2T
      refine ⟨rfl, ?_⟩
      show tYes _ _ _
      unfold tYes
      dsimp only
      rw [if_pos rfl]
      refine (show ∃ v, _ ∧ _ from ⟨_, rfl, _, rfl, str_one (by omega) he ?_⟩)
      refine ⟨wd [j], rfl, laps_one fun N1 hN1 => ?_⟩
      unfold lc3T
      refine ⟨rfl, ?_⟩
      dsimp only
      rw [if_pos rfl]
      simp only [wipe, gName, List.set_cons_zero, List.set_cons_succ]
      walk_at "1"
      refine ⟨by show 1 + 1 ≤ sizeLine; decide, i, j, b, t, c, c', fnOf w, levelQ qs r, toQ qs (ds.drop (k + 1)).reverse r, toQ (qs.map turnQ) (es.drop (k + 1)).reverse r, rfl, dlt, elt, nij, rfl, rfl, rfl, rfl, by rw [six_fn q6]; exact Same.sqT sD sb4, Same.sqT sD st4, Same.sqT sD u4, Same.sqT sD v3, fun p H6 s6 np gp => ?_⟩
      refine ⟨p, _, [_], rfl, .inl (.inl gp), ?_⟩
      refine ⟨_, s6 _ _ gD, by decide, hN1 _ (hN _ ?_)⟩
      have s46 : Same H4 (upd H6 D (.lst ([] ++ [V.int (List.foldl min (bl1 (fnOf w) (toQ qs (ds.drop (k + 1)).reverse r) (toQ (qs.map turnQ) (es.drop (k + 1)).reverse r) i j) [bl2 (fnOf w) (levelQ qs r) (toQ qs (ds.drop (k + 1)).reverse r) (toQ (qs.map turnQ) (es.drop (k + 1)).reverse r) i j])]))) := (Off.trans (Same.off (sD.trans s6)) off_upd).same nD
      refine ⟨D, [_], rfl, .inl (.inl (by rw [upd_same]; rfl)), Nat.one_pos, fun m hm _ => ?_⟩
      rw [List.mem_singleton.mp hm]
      exact q _ (oH.trans (Same.off s46)) (k4.same s46)
end
end U
namespace U
open PySem PySem.Spec PyProof.Rows L2

/-! ### costs between arrangements -/
/-- the numbers of a yard's reckoning -/
def qsOf (g : Int) (rows : List (List (Option Int))) : List (List Int) := rows.reverse.map (rowI (g * 4 ^ rows.length))
/-- what a look at a yard's costs leaves as it was -/
def Mild (K : PySem.W.Frag) (p : Addr) (H H' : Hp) : Prop := (∀ b o, (∀ C dx fs, o ≠ .ins C dx fs) → H b = some o → H' b = some o) ∧ ∀ H0, Same H0 H → H0 p = none → (∀ a, YdR K H p a → H0 a = none) → Same H0 H' ∧ ∀ a, YdR K H' p a → H0 a = none
theorem Mild.trans {K : PySem.W.Frag} {p : Addr} {H H' H2 : Hp} (h : Mild K p H H') (g : Mild K p H' H2) : Mild K p H H2 :=
  ⟨fun b o n e => g.1 b o n (h.1 b o n e), fun H0 s n r => by
    obtain ⟨s1, r1⟩ := h.2 H0 s n r
    exact g.2 H0 s1 n r1⟩
theorem Mild.of_same {K : PySem.W.Frag} {p : Addr} {H H' : Hp} {o : HO} (hp : H p = some o) (e : Same H H') : Mild K p H H' :=
  ⟨fun b o _ z => e b o z, fun H0 s n r => ⟨s.trans e, fun a ⟨dx, t, z⟩ => r a ⟨dx, t, by
    have := e p o hp
    rw [this] at z
    rw [hp]
    exact z⟩⟩⟩
/-- the yard gets its reckoning -/
theorem mild_reck {K : PySem.W.Frag} {p a : Addr} {H H' : Hp} {C dx : Addr} {fs : List (Str × V)} (hp : H p = some (.ins C dx fs)) (o : Off p H H') (yr : YdR K H' p a) (old : YdR K H p a ∨ H a = none) : Mild K p H H' := by
  refine ⟨fun b u n e => o b u (fun z => ?_) e, fun H0 s n r => ⟨fun b u e => o b u (fun z => by rw [z, n] at e; cases e) (s b u e), fun b ⟨d2, t2, z⟩ => ?_⟩⟩
  · rw [z, hp] at e
    injection e with e
    exact n _ _ _ e.symm
  · obtain ⟨d1, t1, z1⟩ := yr
    have : b = a := by
      rw [z1] at z
      simp at z
      exact z.2.2.symm
    subst this
    rcases old with h | h
    · exact r b h
    · cases e : H0 b with
      | none => rfl
      | some u => rw [s b u e] at h; cases h
/-- its reckoning looks at the ways back -/
theorem mild_back {K : PySem.W.Frag} {p a : Addr} {H H' : Hp} {C dx : Addr} {fs : List (Str × V)} (yr : YdR K H p a) (ga : H a = some (.ins C dx fs)) (ne : p ≠ a) (o : Off a H H') : Mild K p H H' := by
  refine ⟨fun b u n e => o b u (fun z => ?_) e, fun H0 s n r => ⟨fun b u e => o b u (fun z => by rw [z, r a yr] at e; cases e) (s b u e), fun b ⟨d2, t2, z⟩ => ?_⟩⟩
  · rw [z, ga] at e
    injection e with e
    exact n _ _ _ e.symm
  · obtain ⟨d1, t1, z1⟩ := id yr
    rw [o _ _ ne z1] at z
    have : b = a := by
      simp at z
      exact z.2.2.symm
    rw [this]
    exact r a yr
def sp_check_both (K : PySem.W.Frag) : Sp := sp3 fun y x z H Q _ => ∃ p rows ds es, y = .ref p ∧ Yd K H p rows ∧ Arr rows.length x ds ∧ Arr rows.length z es ∧ ∀ H', Same H H' → Q .non H'
def sp_largest_moving (K : PySem.W.Frag) : Sp := sp3 fun y x z H Q _ => ∃ p rows ds es, y = .ref p ∧ Yd K H p rows ∧ Arr rows.length x ds ∧ Arr rows.length z es ∧ ∀ H', Same H H' → Q (crV (firstA ds es)) H'
/-- what is told of the cost between two arrangements -/
def leastT (g : Int) (rows : List (List (Option Int))) (ds es : List Nat) : Option Int := toldV (g * 4 ^ rows.length) (cheapQ (qsOf g rows) ds es)
def sp_least (K : PySem.W.Frag) : Sp := sp3 fun y x z H Q _ => ∃ p rows ds es, y = .ref p ∧ YdK K H p rows ∧ Arr rows.length x ds ∧ Arr rows.length z es ∧ ∀ g H', Great rows g → Mild K p H H' → YdK K H' p rows → Q (pV (leastT g rows ds es)) H'
def t_check_both (K : PySem.W.Frag) (E : XK) : TS := (tSeq (tDrop (tFn (sp_check_arrangement K) E (tCons (tVar 0) (tCons (tVar 1) tNil)))) (tDrop (tFn (sp_check_arrangement K) E (tCons (tVar 0) (tCons (tVar 2) tNil)))))
def t_largest_moving (K : PySem.W.Frag) (E : XK) : TS := (tSeq (tDrop (tFn (sp_check_both K) E (tCons (tVar 0) (tCons (tVar 1) (tCons (tVar 2) tNil))))) (tRet (tFn (sp_first_apart K) E (tCons (tVar 1) (tCons (tVar 2) tNil)))))
def t_least (K : PySem.W.Frag) (E : XK) : TS := (tSeq (tDrop (tFn (sp_check_both K) E (tCons (tVar 0) (tCons (tVar 1) (tCons (tVar 2) tNil))))) (tSeq (tAsg (tMeth (He.ga K "Yard") "reckoning" (sp_Yard_reckoning K) [] E (tVar 0) tNil) (gName 3)) (tRet (tMeth (He.ga K "Reckoning") "told" (sp_Reckoning_told K) [] E (tVar 3) (tCons (tMeth (He.ga K "Reckoning") "cheapest" (sp_Reckoning_cheapest K) [] E (tVar 3) (tCons (tVar 1) (tCons (tVar 2) tNil))) tNil)))))
section
variable {K : PySem.W.Frag} (F : KF K) (R : KR K) {vs : List V} {H : Hp} {Q : VK} {E : XK}
local macro_rules | `(tactic| walk_at "w") => `(tactic| try simp only [turnE, lcT, Snoc, tRet, tRetN, tAndV, tOrV, tNotV, tCB, tCons, tVar, tNil, tC, tOp, tSeq, tAsg, gName, gSub, tIfS, tDrop, tFn, tTup, tLst, tNext, tB, tTest, tNot, tAnd, tOr, tIf, tChain, tUn, rU, tFld, tPart, tNoPart, L2.tSl, tBM, tPar, tPar3, tTruth, tDNewK,
  L2.start, List.map_cons, List.map_nil, List.length_cons, List.length_nil, List.replicate_succ, List.replicate_zero, List.append_nil, List.nil_append, List.cons_append, List.singleton_append, Nat.sub_self, Nat.zero_add, Nat.reduceAdd, Nat.reduceSub,
  List.getElem?_cons_zero, List.getElem?_cons_succ, List.set_cons_zero, List.set_cons_succ, Option.some.injEq, exists_eq_left, exists_eq_left', V.int.injEq, V.bl.injEq, V.str.injEq, V.ref.injEq,
  uAdd_int, uAdd_str, uSub_int, uMul_int, uMul_str, uDiv_int, uMod_int, uPow_int, uLt_int, uLe_int, uGt_int, uGe_int, uIs_non, uNis_non, uIs_bl, uNis_bl, sp1, sp2, sp3, sp4, uEq_int, uEq_str, uNe_int, uNe_str, uSl_str, uLen_str, decide_eq_true_eq])
local macro_rules | `(tactic| walk_at "1") => `(tactic| try simp only [turnE, lcT, Snoc, tRet, tRetN, tAndV, tOrV, tNotV, tCB, tCons, tVar, tNil, tC, tOp, tAsg, gName, gSub, tIfS, tDrop, tFn, tTup, tLst, tNext, tB, tTest, tNot, tAnd, tOr, tIf, tChain, tUn, rU, tFld, tPart, tNoPart, L2.tSl, tBM, tPar, tPar3, tTruth, tDNewK,
  L2.start, List.map_cons, List.map_nil, List.length_cons, List.length_nil, List.replicate_succ, List.replicate_zero, List.append_nil, List.nil_append, List.cons_append, List.singleton_append, Nat.sub_self, Nat.zero_add, Nat.reduceAdd, Nat.reduceSub,
  List.getElem?_cons_zero, List.getElem?_cons_succ, List.set_cons_zero, List.set_cons_succ, Option.some.injEq, exists_eq_left, exists_eq_left', V.int.injEq, V.bl.injEq, V.str.injEq, V.ref.injEq,
  uAdd_int, uAdd_str, uSub_int, uMul_int, uMul_str, uDiv_int, uMod_int, uPow_int, uLt_int, uLe_int, uGt_int, uGe_int, uIs_non, uNis_non, uIs_bl, uNis_bl, sp1, sp2, sp3, sp4, uEq_int, uEq_str, uNe_int, uNe_str, uSl_str, uLen_str, decide_eq_true_eq])
local macro_rules | `(tactic| walk_at "s") => `(tactic| ((try dsimp only [turnE]); with_reducible refine seq_ ?_))

theorem arr_args {x : V} {n : Nat} {ds : List Nat} (h : Arr n x ds) (h60 : n ≤ 60) : x = .str (wd ds) ∧ Is K H x .str ∧ Short x ∧ arrB n x = true := by
  obtain ⟨rfl, hl, h3⟩ := h
  refine ⟨rfl, is_str _, fun z e => ?_, arrB_wd hl h3⟩
  injection e with e
  rw [← e, wd_length]
  exact Nat.le_trans (show ds.length ≤ 60 by omega) (by decide)
include F in
theorem chk_one {p : Addr} {rows : List (List (Option Int))} {x : V} {ds : List Nat} (hy : Yd K H p rows) (ha : Arr rows.length x ds) (q : ∀ H', Same H H' → Q .non H') : sp_check_arrangement K [.ref p, x] H Q E := by
  have h60 : rows.length ≤ 60 := by
    obtain ⟨_, _, _, _, _, _, y4, _⟩ := hy
    exact y4
  obtain ⟨_, a1, a2, a3⟩ := arr_args (K := K) (H := H) ha h60
  exact yardOr_of F hy ⟨.str, a1, a2, fun _ => q, fun z => by rw [a3] at z; cases z⟩
include F in
theorem read_check_both (h : sp_check_both K vs H Q E) : t_check_both K E { nx := fun _ H' => Q .non H', rt := Q } (start ["yard", "start", "goal"] vs) H := by
  match vs, h with
  | [_, _, _], ⟨p, rows, ds, es, rfl, hy, h1, h2, q⟩ =>
    unfold t_check_both
    walk_at "s"
    walk_at "1"
    refine chk_one F hy h1 fun H1 s1 => ?_
    walk_at "1"
    exact chk_one F (hy.same s1) h2 fun H2 s2 => q H2 (s1.trans s2)
include F in
theorem read_largest_moving (h : sp_largest_moving K vs H Q E) : t_largest_moving K E { nx := fun _ H' => Q .non H', rt := Q } (start ["yard", "start", "goal"] vs) H := by
  match vs, h with
  | [_, _, _], ⟨p, rows, ds, es, rfl, hy, h1, h2, q⟩ =>
    have h60 : rows.length ≤ 60 := by
      obtain ⟨_, _, _, _, _, _, y4, _⟩ := hy
      exact y4
    unfold t_largest_moving
    walk_at "s"
    walk_at "1"
    refine ⟨p, rows, ds, es, rfl, hy, h1, h2, fun H1 s1 => ?_⟩
    walk_at "1"
    obtain ⟨rfl, l1, d1⟩ := h1
    obtain ⟨rfl, l2, d2⟩ := h2
    exact ⟨ds, es, rfl, rfl, d1, d2, by omega, by omega, fun H2 s2 => q H2 (s1.trans s2)⟩
include R in
/-- a yard whose reckoning has looked at the ways back -/
theorem YdK.rk {H' : Hp} {p a : Addr} {rows : List (List (Option Int))} {g : Int} (hy : YdK K H p rows) (hr : YdR K H p a) (hg : Great rows g) (ha : ∃ dx fs, H a = some (.ins (He.ga K "Reckoning") dx fs)) (o : Off a H H') (m : RkM K H' a (g * 4 ^ rows.length) (qsOf g rows)) : YdK K H' p rows := by
  obtain ⟨dx, t, gy⟩ := hr
  obtain ⟨da, fa, ga⟩ := ha
  have pa : p ≠ a := by
    rintro rfl
    rw [gy] at ga
    injection ga with ga
    injection ga with h1
    exact R.ne h1
  obtain ⟨⟨dx0, t0, as, ⟨rk0, y1⟩, y2, y3, y4, y5, y6, y7⟩, ok, _⟩ := hy
  have gy' := o _ _ pa gy
  obtain ⟨rfl, rfl, rfl⟩ : dx = dx0 ∧ t = t0 ∧ V.ref a = rk0 := by
    rw [gy] at y1
    injection y1 with y1
    injection y1 with _ e1 e2
    simp at e2
    exact ⟨e1, e2.1, e2.2⟩
  obtain ⟨lp, lt, ⟨d2, bk, g2, kb⟩, p1, p2, l1, l2⟩ := m
  exact ⟨⟨dx, t, as, ⟨_, gy'⟩, o.sqT_ins ga y2, y3, y4, y5, fun i b r z1 z2 => o.sqT_ins ga (y6 i b r z1 z2), y7⟩, ok, dx, t, _, gy', .inr ⟨a, rfl, g, lp, lt, hg, ⟨d2, bk, g2, kb⟩, p1, p2⟩⟩
theorem RkO.m {a : Addr} {rows : List (List (Option Int))} (h60 : rows.length ≤ 60) (h6 : ∀ r ∈ rows, r.length = 6) (h : RkO K H a rows) : ∃ g, Great rows g ∧ RkM K H a (g * 4 ^ rows.length) (qsOf g rows) := by
  obtain ⟨g, lp, lt, hg, ⟨dx, bk, ga, kb⟩, p1, p2⟩ := h
  refine ⟨g, hg, lp, lt, ⟨dx, bk, ga, kb⟩, p1, p2, by unfold qsOf; rw [List.length_map, List.length_reverse]; exact h60, fun q m => ?_⟩
  obtain ⟨r, mr, rfl⟩ := List.mem_map.mp m
  unfold rowI
  rw [List.length_map]
  exact h6 r (List.mem_reverse.mp mr)
include F R in
theorem read_least (h : sp_least K vs H Q E) : t_least K E { nx := fun _ H' => Q .non H', rt := Q } (start ["yard", "start", "goal", "reckoning"] vs) H := by
  match vs, h with
  | [_, _, _], ⟨p, rows, ds, es, rfl, hy, h1, h2, q⟩ =>
    have h6 := len6_of hy.1
    have h60 : rows.length ≤ 60 := by
      obtain ⟨⟨_, _, _, _, _, _, y4, _⟩, _⟩ := hy
      exact y4
    unfold t_least
    walk_at "s"
    walk_at "1"
    refine ⟨p, rows, ds, es, rfl, hy.1, h1, h2, fun H1 s1 => ?_⟩
    have hy1 := hy.same s1
    obtain ⟨_, _, dx, t, rk, gy, _⟩ := id hy1
    obtain ⟨rfl, l1, d1⟩ := h1
    obtain ⟨rfl, l2, d2⟩ := h2
    walk_at "s"
    simp only [tMeth]
    walk_at "1"
    refine ⟨.ref p, rfl, p, dx, _, rfl, gy, rfl, p, rows, rfl, hy1, fun a H2 o2 hy2 ra yr old => ?_⟩
    obtain ⟨g, hg, m2⟩ := ra.m h60 h6
    obtain ⟨lp, lt, ⟨da, bk, ga, kb⟩, _⟩ := id m2
    refine ⟨.ref a, rfl, a, da, _, rfl, ga, rfl, .ref a, rfl, a, da, _, rfl, ga, rfl, _, rfl, _, rfl, a, _, qsOf g rows, ds, es, rfl, rfl, rfl, m2, d1, d2, ?_, ?_, fun H3 o3 m3 => ?_⟩
    · unfold qsOf; rw [List.length_map, List.length_reverse, l1]
    · unfold qsOf; rw [List.length_map, List.length_reverse, l2]
    · have hy3 := hy2.rk R yr hg ⟨da, _, ga⟩ o3 m3
      obtain ⟨lp3, lt3, ⟨da3, bk3, ga3, _⟩, _⟩ := id m3
      refine ⟨a, g * 4 ^ rows.length, .ref lp3, .ref lt3, cheapQ (qsOf g rows) ds es, rfl, ⟨da3, bk3, ga3⟩, rfl, ?_⟩
      have ne : p ≠ a := by
        obtain ⟨d5, t5, z5⟩ := id yr
        rintro rfl
        rw [z5] at ga
        injection ga with ga
        injection ga with e1
        exact R.ne e1
      have gp := hy.2.2
      obtain ⟨_, _, _, gp, _⟩ := gp
      exact q g H3 hg (((Mild.of_same gp s1).trans (mild_reck gy o2 yr old)).trans (mild_back yr ga ne o3)) hy3
end
end U
namespace U
open PySem PySem.Spec PyProof.Rows L2

/-! ### costs to and from the towers -/
def plD (f : Nat → Option Int) : List (Key × V) := [0, 1, 2].map fun i => (.inr (pl i), pV (f i))
theorem named_three (B : Int) (u : Nat → Int) : namedK B ["a", "b", "c"] (three u) = plD fun i => toldV B (u i) := rfl
def toT (g : Int) (rows : List (List (Option Int))) (ds : List Nat) (i : Nat) : Option Int := toldV (g * 4 ^ rows.length) (toQ (qsOf g rows) ds.reverse rows.length i)
def fromT (g : Int) (rows : List (List (Option Int))) (ds : List Nat) (i : Nat) : Option Int := toldV (g * 4 ^ rows.length) (toQ ((qsOf g rows).map turnQ) ds.reverse rows.length i)
def sp_to_towers (K : PySem.W.Frag) : Sp := sp2 fun y x H Q _ => ∃ p rows ds, y = .ref p ∧ YdK K H p rows ∧ Arr rows.length x ds ∧ ∀ g l H1 H', Great rows g → Mild K p H H1 → YdK K H1 p rows → Same H1 H' → H1 l = none → H' l = some (.dK (plD (toT g rows ds))) → Q (.ref l) H'
def sp_from_towers (K : PySem.W.Frag) : Sp := sp2 fun y x H Q _ => ∃ p rows ds, y = .ref p ∧ YdK K H p rows ∧ Arr rows.length x ds ∧ ∀ g l H1 H', Great rows g → Mild K p H H1 → YdK K H1 p rows → Same H1 H' → H1 l = none → H' l = some (.dK (plD (fromT g rows ds))) → Q (.ref l) H'
def t_to_towers (K : PySem.W.Frag) (E : XK) : TS := (tSeq (tDrop (tFn (sp_check_arrangement K) E (tCons (tVar 0) (tCons (tVar 1) tNil)))) (tSeq (tAsg (tMeth (He.ga K "Yard") "reckoning" (sp_Yard_reckoning K) [] E (tVar 0) tNil) (gName 2)) (tRet (tMeth (He.ga K "Reckoning") "named" (sp_Reckoning_named K) [] E (tVar 2) (tCons (tC (.ref (He.ga K "PLACES"))) (tCons (tOp (uIx K) (tMeth (He.ga K "Reckoning") "to_towers" (sp_Reckoning_to_towers K) [] E (tVar 2) (tCons (tVar 1) tNil)) (tUn (rU fun i => .int (-i)) (tC (.int 1)))) tNil))))))
def t_from_towers (K : PySem.W.Frag) (E : XK) : TS := (tSeq (tDrop (tFn (sp_check_arrangement K) E (tCons (tVar 0) (tCons (tVar 1) tNil)))) (tSeq (tAsg (tMeth (He.ga K "Yard") "reckoning" (sp_Yard_reckoning K) [] E (tVar 0) tNil) (gName 2)) (tRet (tMeth (He.ga K "Reckoning") "named" (sp_Reckoning_named K) [] E (tVar 2) (tCons (tC (.ref (He.ga K "PLACES"))) (tCons (tOp (uIx K) (tMeth (He.ga K "Reckoning") "from_towers" (sp_Reckoning_from_towers K) [] E (tVar 2) (tCons (tVar 1) tNil)) (tUn (rU fun i => .int (-i)) (tC (.int 1)))) tNil))))))
section
variable {K : PySem.W.Frag} (F : KF K) (R : KR K) {vs : List V} {H : Hp} {Q : VK} {E : XK}
local macro_rules | `(tactic| walk_at "w") => `(tactic| try simp only [turnE, lcT, Snoc, tRet, tRetN, tAndV, tOrV, tNotV, tCB, tCons, tVar, tNil, tC, tOp, tSeq, tAsg, gName, gSub, tIfS, tDrop, tFn, tTup, tLst, tNext, tB, tTest, tNot, tAnd, tOr, tIf, tChain, tUn, rU, tFld, tPart, tNoPart, L2.tSl, tBM, tPar, tPar3, tTruth, tDNewK,
  L2.start, List.map_cons, List.map_nil, List.length_cons, List.length_nil, List.replicate_succ, List.replicate_zero, List.append_nil, List.nil_append, List.cons_append, List.singleton_append, Nat.sub_self, Nat.zero_add, Nat.reduceAdd, Nat.reduceSub,
  List.getElem?_cons_zero, List.getElem?_cons_succ, List.set_cons_zero, List.set_cons_succ, Option.some.injEq, exists_eq_left, exists_eq_left', V.int.injEq, V.bl.injEq, V.str.injEq, V.ref.injEq,
  uAdd_int, uAdd_str, uSub_int, uMul_int, uMul_str, uDiv_int, uMod_int, uPow_int, uLt_int, uLe_int, uGt_int, uGe_int, uIs_non, uNis_non, uIs_bl, uNis_bl, sp1, sp2, sp3, sp4, uEq_int, uEq_str, uNe_int, uNe_str, uSl_str, uLen_str, decide_eq_true_eq])
local macro_rules | `(tactic| walk_at "1") => `(tactic| try simp only [turnE, lcT, Snoc, tRet, tRetN, tAndV, tOrV, tNotV, tCB, tCons, tVar, tNil, tC, tOp, tAsg, gName, gSub, tIfS, tDrop, tFn, tTup, tLst, tNext, tB, tTest, tNot, tAnd, tOr, tIf, tChain, tUn, rU, tFld, tPart, tNoPart, L2.tSl, tBM, tPar, tPar3, tTruth, tDNewK,
  L2.start, List.map_cons, List.map_nil, List.length_cons, List.length_nil, List.replicate_succ, List.replicate_zero, List.append_nil, List.nil_append, List.cons_append, List.singleton_append, Nat.sub_self, Nat.zero_add, Nat.reduceAdd, Nat.reduceSub,
  List.getElem?_cons_zero, List.getElem?_cons_succ, List.set_cons_zero, List.set_cons_succ, Option.some.injEq, exists_eq_left, exists_eq_left', V.int.injEq, V.bl.injEq, V.str.injEq, V.ref.injEq,
  uAdd_int, uAdd_str, uSub_int, uMul_int, uMul_str, uDiv_int, uMod_int, uPow_int, uLt_int, uLe_int, uGt_int, uGe_int, uIs_non, uNis_non, uIs_bl, uNis_bl, sp1, sp2, sp3, sp4, uEq_int, uEq_str, uNe_int, uNe_str, uSl_str, uLen_str, decide_eq_true_eq])
local macro_rules | `(tactic| walk_at "s") => `(tactic| ((try dsimp only [turnE]); with_reducible refine seq_ ?_))

include F R in
theorem read_to_towers (h : sp_to_towers K vs H Q E) : t_to_towers K E { nx := fun _ H' => Q .non H', rt := Q } (start ["yard", "start", "reckoning"] vs) H := by
  match vs, h with
  | [_, _], ⟨p, rows, ds, rfl, hy, h1, q⟩ =>
    have h6 := len6_of hy.1
    have h60 : rows.length ≤ 60 := by
      obtain ⟨⟨_, _, _, _, _, _, y4, _⟩, _⟩ := hy
      exact y4
    unfold t_to_towers
    walk_at "s"
    walk_at "1"
    refine chk_one F hy.1 h1 fun H1 s1 => ?_
    have hy1 := hy.same s1
    obtain ⟨_, _, dx, t, rk, gy, _⟩ := id hy1
    obtain ⟨rfl, l1, d1⟩ := h1
    walk_at "s"
    simp only [tMeth]
    walk_at "1"
    refine ⟨.ref p, rfl, p, dx, _, rfl, gy, rfl, p, rows, rfl, hy1, fun a H2 o2 hy2 ra yr old => ?_⟩
    obtain ⟨g, hg, m2⟩ := ra.m h60 h6
    obtain ⟨lp, lt, ⟨da, bk, ga, kb⟩, _⟩ := id m2
    have lq : (qsOf g rows).length = rows.length := by unfold qsOf; rw [List.length_map, List.length_reverse]
    refine ⟨.ref a, rfl, a, da, _, rfl, ga, rfl, .ref a, rfl, a, da, _, rfl, ga, rfl, _, rfl, a, _, qsOf g rows, ds, rfl, rfl, m2.n, d1, by rw [lq, l1]; exact Nat.le_refl _, fun l cs H3 s3 gl lc at_ => ?_⟩
    have hc : cs[rows.length]? = some (cs[rows.length]'(by omega)) := List.getElem?_eq_getElem _
    have tc := at_ _ _ hc
    walk_at "1"
    refine ⟨_, _, .inl (.inl (.inl gl)), at_end (n := rows.length) (by rw [List.length_map, lc, l1]) (by rw [List.getElem?_map, hc]; rfl), ?_⟩
    refine ⟨a, _, .ref lp, .ref lt, _, _, ["a", "b", "c"], three (toQ (qsOf g rows) ds.reverse rows.length), rfl, ⟨da, bk, s3 _ _ ga⟩, rfl, rfl, F.places H3, tc, by decide +kernel, by decide, rfl, fun r H4 s4 nr gr => ?_⟩
    obtain ⟨_, _, _, gp, _⟩ := hy.2.2
    refine q g r H2 H4 hg ((Mild.of_same gp s1).trans (mild_reck gy o2 yr old)) hy2 (s3.trans s4) (s3.free nr) ?_
    rw [gr]
    exact congrArg (fun z => some (HO.dK z)) (named_three _ _)
include F R in
theorem read_from_towers (h : sp_from_towers K vs H Q E) : t_from_towers K E { nx := fun _ H' => Q .non H', rt := Q } (start ["yard", "goal", "reckoning"] vs) H := by
  match vs, h with
  | [_, _], ⟨p, rows, ds, rfl, hy, h1, q⟩ =>
    have h6 := len6_of hy.1
    have h60 : rows.length ≤ 60 := by
      obtain ⟨⟨_, _, _, _, _, _, y4, _⟩, _⟩ := hy
      exact y4
    unfold t_from_towers
    walk_at "s"
    walk_at "1"
    refine chk_one F hy.1 h1 fun H1 s1 => ?_
    have hy1 := hy.same s1
    obtain ⟨_, _, dx, t, rk, gy, _⟩ := id hy1
    obtain ⟨rfl, l1, d1⟩ := h1
    walk_at "s"
    simp only [tMeth]
    walk_at "1"
    refine ⟨.ref p, rfl, p, dx, _, rfl, gy, rfl, p, rows, rfl, hy1, fun a H2 o2 hy2 ra yr old => ?_⟩
    obtain ⟨g, hg, m2⟩ := ra.m h60 h6
    obtain ⟨lp, lt, ⟨da, bk, ga, kb⟩, _⟩ := id m2
    have lq : (qsOf g rows).length = rows.length := by unfold qsOf; rw [List.length_map, List.length_reverse]
    refine ⟨.ref a, rfl, a, da, _, rfl, ga, rfl, .ref a, rfl, a, da, _, rfl, ga, rfl, _, rfl, a, _, qsOf g rows, ds, rfl, rfl, m2, d1, by rw [lq, l1]; exact Nat.le_refl _, fun l H3 o3 m3 lv => ?_⟩
    obtain ⟨cs, gl, lc, at_⟩ := lv
    have hy3 := hy2.rk R yr hg ⟨da, _, ga⟩ o3 m3
    obtain ⟨lp3, lt3, ⟨da3, bk3, ga3, _⟩, _⟩ := id m3
    have ne : p ≠ a := by
      obtain ⟨d5, t5, z5⟩ := id yr
      rintro rfl
      rw [z5] at ga
      injection ga with ga
      injection ga with e1
      exact R.ne e1
    have hc : cs[rows.length]? = some (cs[rows.length]'(by omega)) := List.getElem?_eq_getElem _
    have tc := at_ _ _ hc
    walk_at "1"
    refine ⟨_, _, .inl (.inl (.inl gl)), at_end (n := rows.length) (by rw [List.length_map, lc, l1]) (by rw [List.getElem?_map, hc]; rfl), ?_⟩
    refine ⟨a, _, .ref lp3, .ref lt3, _, _, ["a", "b", "c"], three (toQ ((qsOf g rows).map turnQ) ds.reverse rows.length), rfl, ⟨da3, bk3, ga3⟩, rfl, rfl, F.places H3, tc, by decide +kernel, by decide, rfl, fun r H4 s4 nr gr => ?_⟩
    obtain ⟨_, _, _, gp, _⟩ := hy.2.2
    refine q g r H3 H4 hg (((Mild.of_same gp s1).trans (mild_reck gy o2 yr old)).trans (mild_back yr ga ne o3)) hy3 s4 nr ?_
    rw [gr]
    exact congrArg (fun z => some (HO.dK z)) (named_three _ _)
end
end U
namespace U
open PySem PySem.Spec PyProof.Rows L2

abbrev LL := List (List (Option Int))
/-! ### moves and walks -/
/-- one move with its price: the largest crate, or one of the rest -/
inductive Stp : LL → List Nat → List Nat → Int → Prop
  | big {r rs d p es c} (hd : d < 3) (hp : p < 3) (ne : p ≠ d) (h1 : d ∉ es) (h2 : p ∉ es) (hc : prF r d p = some c) : Stp (r :: rs) (d :: es) (p :: es) c
  | small {r rs d es fs c} (h : Stp rs es fs c) : Stp (r :: rs) (d :: es) (d :: fs) c
inductive Wlk (rows : LL) : List Nat → List Nat → Int → Prop
  | nil {s} : Wlk rows s s 0
  | cons {s t u a b} (h : Stp rows s t a) (w : Wlk rows t u b) : Wlk rows s u (a + b)
theorem Wlk.trans {rows : LL} {s t u : List Nat} {a b : Int} (h : Wlk rows s t a) (g : Wlk rows t u b) : Wlk rows s u (a + b) := by
  induction h with
  | nil => rw [Int.zero_add]; exact g
  | cons h w ih => rw [Int.add_assoc]; exact .cons h (ih g)
theorem Wlk.one {rows : LL} {s t : List Nat} {a : Int} (h : Stp rows s t a) : Wlk rows s t a := by
  have := Wlk.cons h (.nil (s := t))
  rwa [Int.add_zero] at this
theorem Wlk.lift {r : List (Option Int)} {rs : LL} {s t : List Nat} {a : Int} (d : Nat) (h : Wlk rs s t a) : Wlk (r :: rs) (d :: s) (d :: t) a := by
  induction h with
  | nil => exact .nil
  | cons h w ih => exact .cons (.small h) ih
theorem Stp.d3 {rows : LL} {s t : List Nat} {c : Int} (h : Stp rows s t c) (g : D3 s) : D3 t := by
  induction h with
  | big hd hp ne h1 h2 hc =>
    intro x m
    rcases List.mem_cons.mp m with rfl | m
    · exact hp
    · exact g x (List.mem_cons_of_mem _ m)
  | small h ih =>
    intro x m
    rcases List.mem_cons.mp m with rfl | m
    · exact g _ List.mem_cons_self
    · exact ih (fun y my => g y (List.mem_cons_of_mem _ my)) x m
theorem Stp.len {rows : LL} {s t : List Nat} {c : Int} (h : Stp rows s t c) : t.length = s.length := by
  induction h with
  | big => rfl
  | small h ih => simp [ih]
theorem Wlk.len {rows : LL} {s t : List Nat} {c : Int} (h : Wlk rows s t c) : t.length = s.length := by
  induction h with
  | nil => rfl
  | cons h w ih => rw [ih, h.len]
theorem Wlk.d3 {rows : LL} {s t : List Nat} {c : Int} (h : Wlk rows s t c) (g : D3 s) : D3 t := by
  induction h with
  | nil => exact g
  | cons h w ih => exact ih (h.d3 g)
/-- prices are not negative -/
def PosR (rows : LL) : Prop := ∀ r ∈ rows, ∀ v, some v ∈ r → 0 < v
theorem PosR.tail {r : List (Option Int)} {rs : LL} (h : PosR (r :: rs)) : PosR rs := fun x m => h x (List.mem_cons_of_mem _ m)
theorem prF_mem {r : List (Option Int)} {i j : Nat} {v : Int} (h : prF r i j = some v) : some v ∈ r := by
  unfold prF at h
  cases e : r[colN i j]? with
  | none => (rw [e] at h; cases h)
  | some o =>
    rw [e] at h
    have : o = some v := h
    exact this ▸ List.mem_of_getElem? e
theorem Stp.pos {rows : LL} {s t : List Nat} {c : Int} (h : Stp rows s t c) (g : PosR rows) : 0 < c := by
  induction h with
  | big hd hp ne h1 h2 hc => exact g _ List.mem_cons_self _ (prF_mem hc)
  | small h ih => exact ih g.tail
theorem Wlk.nonneg {rows : LL} {s t : List Nat} {c : Int} (h : Wlk rows s t c) (g : PosR rows) : 0 ≤ c := by
  induction h with
  | nil => exact Int.le_refl _
  | cons h w ih => have := h.pos g; omega
/-- all on one place -/
abbrev twr (n i : Nat) : List Nat := List.replicate n i
theorem third_rep : ∀ {es : List Nat} {d p : Nat}, D3 es → d < 3 → p < 3 → p ≠ d → d ∉ es → p ∉ es → es = twr es.length (3 - d - p)
  | [], _, _, _, _, _, _, _, _ => rfl
  | e :: es, d, p, h, hd, hp, ne, h1, h2 => by
    have i := third_rep (es := es) (fun x m => h x (List.mem_cons_of_mem _ m)) hd hp ne (fun m => h1 (List.mem_cons_of_mem _ m)) (fun m => h2 (List.mem_cons_of_mem _ m))
    have he := h e List.mem_cons_self
    have n1 : d ≠ e := fun z => h1 (z ▸ List.mem_cons_self)
    have n2 : p ≠ e := fun z => h2 (z ▸ List.mem_cons_self)
    have : e = 3 - d - p := by omega
    show e :: es = List.replicate (es.length + 1) (3 - d - p)
    rw [List.replicate_succ, ← this]
    congr 1
    rw [this]
    exact i
theorem not_twr {n i d : Nat} (h : i ≠ d) : d ∉ twr n i := fun m => h (List.eq_of_mem_replicate m).symm
/-- what a walk to a goal costs at least: by where the largest crate stands -/
def LB (r : List (Option Int)) (rs : LL) (d : Nat) (es : List Nat) (j : Nat) (fs : List Nat) (C : Int) : Prop :=
  (d = j ∧ ∃ a, Wlk rs es fs a ∧ a ≤ C) ∨
  (d ≠ j ∧ ((∃ a c b, Wlk rs es (twr es.length (3 - d - j)) a ∧ prF r d j = some c ∧ Wlk rs (twr es.length (3 - d - j)) fs b ∧ a + c + b ≤ C) ∨
    (∃ a c1 b c2 e, Wlk rs es (twr es.length j) a ∧ prF r d (3 - d - j) = some c1 ∧ Wlk rs (twr es.length j) (twr es.length d) b ∧ prF r (3 - d - j) j = some c2 ∧ Wlk rs (twr es.length d) fs e ∧ a + c1 + b + c2 + e ≤ C)))
theorem lb_of {rows : LL} {s t : List Nat} {C : Int} (w : Wlk rows s t C) : ∀ {r rs d es j fs}, rows = r :: rs → s = d :: es → t = j :: fs → PosR rows → D3 s → j < 3 → LB r rs d es j fs C := by
  induction w with
  | nil =>
    intro r rs d es j fs e1 e2 e3 hP h3 hj
    rw [e2] at e3
    injection e3 with e3 e4
    exact .inl ⟨e3, 0, e4 ▸ .nil, Int.le_refl _⟩
  | @cons s t u a b h w ih =>
    intro r rs d es j fs e1 e2 e3 hP h3 hj
    have h3' := h.d3 h3
    cases h with
    | @small r' rs' d' es' fs' c h =>
      injection e1 with e1 e1'
      injection e2 with e2 e2'
      subst e1 e1' e2 e2'
      have hl := h.len
      rcases ih rfl rfl e3 hP h3' hj with ⟨rfl, x, hx, le⟩ | ⟨ne, ⟨x, c1, y, hx, hc, hy, le⟩ | ⟨x, c1, y, c2, z, hx, hc1, hy, hc2, hz, le⟩⟩
      · exact .inl ⟨rfl, _, .cons h hx, by omega⟩
      · rw [hl] at hx hy
        exact .inr ⟨ne, .inl ⟨_, c1, y, .cons h hx, hc, hy, by omega⟩⟩
      · rw [hl] at hx hy hz
        exact .inr ⟨ne, .inr ⟨_, c1, y, c2, z, .cons h hx, hc1, hy, hc2, hz, by omega⟩⟩
    | @big r' rs' d' p es' c hd hp np h1 h2 hc =>
      injection e1 with e1 e1'
      injection e2 with e2 e2'
      subst e1 e1' e2 e2'
      have h3e : D3 es' := fun x m => h3 x (List.mem_cons_of_mem _ m)
      have e := third_rep h3e hd hp np h1 h2
      have cp : 0 < a := hP _ List.mem_cons_self _ (prF_mem hc)
      rcases ih rfl rfl e3 hP h3' hj with ⟨rfl, x, hx, le⟩ | ⟨ne, ⟨x, c1, y, hx, hc1, hy, le⟩ | ⟨x, c1, y, c2, z, hx, hc1, hy, hc2, hz, le⟩⟩
      · refine .inr ⟨np.symm, .inl ⟨0, a, x, ?_, hc, ?_, by omega⟩⟩
        · rw [← e]; exact .nil
        · rw [← e]; exact hx
      · have p1 := hP _ List.mem_cons_self _ (prF_mem hc1)
        by_cases dj : d' = j
        · exact .inl ⟨dj, _, hx.trans hy, by omega⟩
        · have e2 : 3 - d' - p = j := by omega
          have e4 : 3 - p - j = d' := by omega
          have e5 : 3 - d' - j = p := by omega
          rw [e2] at e
          rw [e4] at hx hy
          refine .inr ⟨dj, .inr ⟨0, a, x, c1, y, ?_, by rw [e5]; exact hc, ?_, by rw [e5]; exact hc1, hy, by omega⟩⟩
          · rw [← e]; exact .nil
          · rw [← e]; exact hx
      · have p1 := hP _ List.mem_cons_self _ (prF_mem hc1)
        have p2 := hP _ List.mem_cons_self _ (prF_mem hc2)
        by_cases dj : d' = j
        · exact .inl ⟨dj, _, (hx.trans hy).trans hz, by omega⟩
        · have e2 : 3 - d' - p = j := by omega
          have e4 : 3 - p - j = d' := by omega
          have e5 : 3 - d' - j = p := by omega
          rw [e4] at hc1 hc2
          refine .inr ⟨dj, .inl ⟨x + y, c2, z, ?_, hc2, ?_, ?_⟩⟩
          · rw [e5]; exact hx.trans hy
          · rw [e5]; exact hz
          · omega
/-! ### the least cost -/
def Least (rows : LL) (s t : List Nat) : Option Int → Prop
  | none => ∀ C, ¬ Wlk rows s t C
  | some v => Wlk rows s t v ∧ ∀ C, Wlk rows s t C → v ≤ C
theorem Least.uniq {rows : LL} {s t : List Nat} {o p : Option Int} (h : Least rows s t o) (g : Least rows s t p) : o = p := by
  cases o with
  | none =>
    cases p with
    | none => rfl
    | some v => exact absurd g.1 (h v)
  | some u =>
    cases p with
    | none => exact absurd h.1 (g u)
    | some v => exact congrArg some (Int.le_antisymm (h.2 _ g.1) (g.2 _ h.1))
theorem Least.some_of {rows : LL} {s t : List Nat} {o : Option Int} {a : Int} (h : Least rows s t o) (w : Wlk rows s t a) : ∃ v, o = some v ∧ Wlk rows s t v ∧ v ≤ a := by
  cases o with
  | none => exact absurd w (h a)
  | some v => exact ⟨v, rfl, h.1, h.2 a w⟩
theorem Least.wlk {rows : LL} {s t : List Nat} {o : Option Int} {v : Int} (h : Least rows s t o) (e : o = some v) : Wlk rows s t v := by subst e; exact h.1
/-- the two lines of a crate between two arrangements -/
theorem least_apart {r : List (Option Int)} {rs : LL} {d j : Nat} {es fs : List Nat} {A B A2 M E : Option Int} (hP : PosR (r :: rs)) (hd : d < 3) (hj : j < 3) (ne : d ≠ j) (h3 : D3 es)
    (hA : Least rs es (twr es.length (3 - d - j)) A) (hB : Least rs (twr es.length (3 - d - j)) fs B) (hA2 : Least rs es (twr es.length j) A2) (hM : Least rs (twr es.length j) (twr es.length d) M) (hE : Least rs (twr es.length d) fs E) :
    Least (r :: rs) (d :: es) (j :: fs) (omin (osum [A, prF r d j, B]) (osum [A2, prF r d (3 - d - j), M, prF r (3 - d - j) j, E])) := by
  have t3 : 3 - d - j < 3 ∧ 3 - d - j ≠ d ∧ 3 - d - j ≠ j := by omega
  -- the walks of the lines
  have up1 : ∀ {a c b}, A = some a → prF r d j = some c → B = some b → Wlk (r :: rs) (d :: es) (j :: fs) (a + c + b) := fun {a c b} ha hc hb => by
    have w1 := (hA.wlk ha).lift (r := r) d
    have w2 : Stp (r :: rs) (d :: twr es.length (3 - d - j)) (j :: twr es.length (3 - d - j)) c := .big hd hj ne.symm (not_twr t3.2.1) (not_twr t3.2.2) hc
    have w3 := (hB.wlk hb).lift (r := r) j
    exact (w1.trans (.one w2)).trans w3
  have up2 : ∀ {a c1 b c2 e}, A2 = some a → prF r d (3 - d - j) = some c1 → M = some b → prF r (3 - d - j) j = some c2 → E = some e → Wlk (r :: rs) (d :: es) (j :: fs) (a + c1 + b + c2 + e) := fun {a c1 b c2 e} ha hc1 hb hc2 he => by
    have w1 := (hA2.wlk ha).lift (r := r) d
    have w2 : Stp (r :: rs) (d :: twr es.length j) ((3 - d - j) :: twr es.length j) c1 := .big hd t3.1 t3.2.1 (not_twr ne.symm) (not_twr t3.2.2.symm) hc1
    have w3 := (hM.wlk hb).lift (r := r) (3 - d - j)
    have w4 : Stp (r :: rs) ((3 - d - j) :: twr es.length d) (j :: twr es.length d) c2 := .big t3.1 hj t3.2.2.symm (not_twr t3.2.1.symm) (not_twr ne) hc2
    have w5 := (hE.wlk he).lift (r := r) j
    exact ((((w1.trans (.one w2)).trans w3).trans (.one w4)).trans w5)
  have h3' : D3 (d :: es) := fun x m => by
    rcases List.mem_cons.mp m with rfl | m
    · exact hd
    · exact h3 x m
  have lo : ∀ C, Wlk (r :: rs) (d :: es) (j :: fs) C → (∃ a c b, A = some a ∧ prF r d j = some c ∧ B = some b ∧ a + c + b ≤ C) ∨ (∃ a c1 b c2 e, A2 = some a ∧ prF r d (3 - d - j) = some c1 ∧ M = some b ∧ prF r (3 - d - j) j = some c2 ∧ E = some e ∧ a + c1 + b + c2 + e ≤ C) := fun C w => by
    rcases lb_of w rfl rfl rfl hP h3' hj with ⟨e, _⟩ | ⟨_, ⟨x, c, y, hx, hc, hy, le⟩ | ⟨x, c1, y, c2, z, hx, hc1, hy, hc2, hz, le⟩⟩
    · exact absurd e ne
    · obtain ⟨a, ea, _, la⟩ := hA.some_of hx
      obtain ⟨b, eb, _, lb⟩ := hB.some_of hy
      exact .inl ⟨a, c, b, ea, hc, eb, by omega⟩
    · obtain ⟨a, ea, _, la⟩ := hA2.some_of hx
      obtain ⟨b, eb, _, lb⟩ := hM.some_of hy
      obtain ⟨e, ee, _, le'⟩ := hE.some_of hz
      exact .inr ⟨a, c1, b, c2, e, ea, hc1, eb, hc2, ee, by omega⟩
  -- each sum
  have s1 : ∀ v, osum [A, prF r d j, B] = some v → ∃ a c b, A = some a ∧ prF r d j = some c ∧ B = some b ∧ v = a + c + b := fun v h => by
    revert h
    cases A with
    | none => intro h; cases h
    | some a =>
      cases prF r d j with
      | none => intro h; cases h
      | some c =>
        cases B with
        | none => intro h; cases h
        | some b =>
          intro h
          have : a + (c + (b + 0)) = v := Option.some.inj h
          exact ⟨a, c, b, rfl, rfl, rfl, by omega⟩
  have s1' : ∀ {a c b}, A = some a → prF r d j = some c → B = some b → osum [A, prF r d j, B] = some (a + c + b) := fun {a c b} h1 h2 h3 => by
    rw [h1, h2, h3]
    show some (a + (c + (b + 0))) = _
    congr 1
    omega
  have s2 : ∀ v, osum [A2, prF r d (3 - d - j), M, prF r (3 - d - j) j, E] = some v → ∃ a c1 b c2 e, A2 = some a ∧ prF r d (3 - d - j) = some c1 ∧ M = some b ∧ prF r (3 - d - j) j = some c2 ∧ E = some e ∧ v = a + c1 + b + c2 + e := fun v h => by
    revert h
    cases A2 with
    | none => intro h; cases h
    | some a =>
      cases prF r d (3 - d - j) with
      | none => intro h; cases h
      | some c1 =>
        cases M with
        | none => intro h; cases h
        | some b =>
          cases prF r (3 - d - j) j with
          | none => intro h; cases h
          | some c2 =>
            cases E with
            | none => intro h; cases h
            | some e =>
              intro h
              have : a + (c1 + (b + (c2 + (e + 0)))) = v := Option.some.inj h
              exact ⟨a, c1, b, c2, e, rfl, rfl, rfl, rfl, rfl, by omega⟩
  have s2' : ∀ {a c1 b c2 e}, A2 = some a → prF r d (3 - d - j) = some c1 → M = some b → prF r (3 - d - j) j = some c2 → E = some e → osum [A2, prF r d (3 - d - j), M, prF r (3 - d - j) j, E] = some (a + c1 + b + c2 + e) := fun {a c1 b c2 e} h1 h2 h3 h4 h5 => by
    rw [h1, h2, h3, h4, h5]
    show some (a + (c1 + (b + (c2 + (e + 0))))) = _
    congr 1
    omega
  generalize osum [A, prF r d j, B] = o1 at *
  generalize osum [A2, prF r d (3 - d - j), M, prF r (3 - d - j) j, E] = o2 at *
  cases o1 with
  | none =>
    cases o2 with
    | none =>
      intro C w
      rcases lo C w with ⟨a, c, b, h1, h2, h3, _⟩ | ⟨a, c1, b, c2, e, h1, h2, h3, h4, h5, _⟩
      · cases s1' h1 h2 h3
      · cases s2' h1 h2 h3 h4 h5
    | some v =>
      obtain ⟨a, c1, b, c2, e, h1, h2, h3, h4, h5, rfl⟩ := s2 v rfl
      refine ⟨up2 h1 h2 h3 h4 h5, fun C w => ?_⟩
      rcases lo C w with ⟨a, c, b, h1, h2, h3, _⟩ | ⟨a, c1, b, c2, e, g1, g2, g3, g4, g5, le⟩
      · cases s1' h1 h2 h3
      · have := Option.some.inj (s2' g1 g2 g3 g4 g5)
        omega
  | some u =>
    obtain ⟨a, c, b, h1, h2, h3, rfl⟩ := s1 u rfl
    cases o2 with
    | none =>
      refine ⟨up1 h1 h2 h3, fun C w => ?_⟩
      rcases lo C w with ⟨a, c, b, g1, g2, g3, le⟩ | ⟨a, c1, b, c2, e, h1, h2, h3, h4, h5, _⟩
      · have := Option.some.inj (s1' g1 g2 g3)
        omega
      · cases s2' h1 h2 h3 h4 h5
    | some v =>
      obtain ⟨a', c1, b', c2, e, k1, k2, k3, k4, k5, rfl⟩ := s2 v rfl
      show Wlk _ _ _ (min _ _) ∧ ∀ C, _ → min _ _ ≤ C
      refine ⟨?_, fun C w => ?_⟩
      · rcases Int.le_total (a + c + b) (a' + c1 + b' + c2 + e) with h | h
        · rw [Int.min_eq_left h]; exact up1 h1 h2 h3
        · rw [Int.min_eq_right h]; exact up2 k1 k2 k3 k4 k5
      · rcases lo C w with ⟨_, _, _, g1, g2, g3, le⟩ | ⟨_, _, _, _, _, g1, g2, g3, g4, g5, le⟩
        · have := Option.some.inj (s1' g1 g2 g3)
          omega
        · have := Option.some.inj (s2' g1 g2 g3 g4 g5)
          omega
theorem least_same {r : List (Option Int)} {rs : LL} {d : Nat} {es fs : List Nat} {A : Option Int} (hP : PosR (r :: rs)) (hd : d < 3) (h3 : D3 es) (hA : Least rs es fs A) : Least (r :: rs) (d :: es) (d :: fs) A := by
  have h3' : D3 (d :: es) := fun x m => by
    rcases List.mem_cons.mp m with rfl | m
    · exact hd
    · exact h3 x m
  have lo : ∀ C, Wlk (r :: rs) (d :: es) (d :: fs) C → ∃ a, Wlk rs es fs a ∧ a ≤ C := fun C w => by
    rcases lb_of w rfl rfl rfl hP h3' hd with ⟨_, z⟩ | ⟨ne, _⟩
    · exact z
    · exact absurd rfl ne
  cases A with
  | none =>
    intro C w
    obtain ⟨a, h, _⟩ := lo C w
    exact hA a h
  | some v =>
    refine ⟨hA.1.lift d, fun C w => ?_⟩
    obtain ⟨a, h, le⟩ := lo C w
    have := hA.2 a h
    omega
theorem least_refl {rows : LL} {s : List Nat} (hP : PosR rows) : Least rows s s (some 0) := ⟨.nil, fun C w => w.nonneg hP⟩
theorem d3_twr {n i : Nat} (h : i < 3) : D3 (twr n i) := fun x m => by rw [List.eq_of_mem_replicate m]; exact h
/-- the levels are the least costs from tower to tower -/
theorem least_towers : ∀ (rows : LL), PosR rows → ∀ i j, i < 3 → j < 3 → i ≠ j → Least rows (twr rows.length i) (twr rows.length j) (levelO (rows.map prF) i j)
  | [], hP, i, j, _, _, _ => least_refl hP
  | r :: rs, hP, i, j, hi, hj, ne => by
    have ih := least_towers rs hP.tail
    have ht : 3 - i - j < 3 ∧ i ≠ 3 - i - j ∧ 3 - i - j ≠ j := by omega
    have := least_apart (r := r) (es := twr rs.length i) (fs := twr rs.length j) hP hi hj ne (d3_twr hi)
      (by rw [List.length_replicate]; exact ih i (3 - i - j) hi ht.1 ht.2.1) (by rw [List.length_replicate]; exact ih (3 - i - j) j ht.1 hj ht.2.2) (by rw [List.length_replicate]; exact ih i j hi hj ne)
      (by rw [List.length_replicate]; exact ih j i hj hi ne.symm) (by rw [List.length_replicate]; exact ih i j hi hj ne)
    exact this
end U
namespace U
open PySem PySem.Spec PyProof.Rows L2

/-! ### tables of costs by arrangements -/
abbrev Cst := List (List Nat × Int)
def getC (cs : Cst) (w : List Nat) : Option Int := (cs.find? fun p => decide (p.1 = w)).map (·.2)
def putC (cs : Cst) (w : List Nat) (c : Int) : Cst := if (cs.any fun p => decide (p.1 = w)) = true then cs.map (fun p => if p.1 = w then (p.1, c) else p) else cs ++ [(w, c)]
theorem getC_pos {p : List Nat × Int} {r : Cst} {w : List Nat} (e : p.1 = w) : getC (p :: r) w = some p.2 := by simp [getC, List.find?_cons, e]
theorem getC_neg {p : List Nat × Int} {r : Cst} {w : List Nat} (e : ¬ p.1 = w) : getC (p :: r) w = getC r w := by simp [getC, List.find?_cons, e]
theorem getC_any (w : List Nat) : ∀ cs : Cst, (cs.any fun p => decide (p.1 = w)) = (getC cs w).isSome
  | [] => rfl
  | p :: r => by
    rw [List.any_cons]
    by_cases e : p.1 = w
    · simp only [getC_pos e, decide_eq_true e, Bool.true_or, Option.isSome_some]
    · rw [getC_neg e, decide_eq_false e, Bool.false_or]; exact getC_any w r
theorem getC_key {cs : Cst} {w : List Nat} : (getC cs w).isSome = true ↔ w ∈ cs.map (·.1) := by
  rw [← getC_any, List.any_eq_true]
  constructor
  · rintro ⟨p, m, e⟩
    exact List.mem_map.mpr ⟨p, m, of_decide_eq_true e⟩
  · intro m
    obtain ⟨p, mp, e⟩ := List.mem_map.mp m
    exact ⟨p, mp, decide_eq_true e⟩
theorem getC_mem {cs : Cst} {w : List Nat} {c : Int} (h : getC cs w = some c) : (w, c) ∈ cs := by
  induction cs with
  | nil => cases h
  | cons p r ih =>
    by_cases e : p.1 = w
    · rw [getC_pos e] at h
      injection h with h
      have : p = (w, c) := by rw [← e, ← h]
      rw [this]
      exact List.mem_cons_self
    · rw [getC_neg e] at h
      (exact List.mem_cons_of_mem _ (ih h))
theorem getC_of_mem {cs : Cst} (hn : (cs.map (·.1)).Nodup) {w : List Nat} {c : Int} (h : (w, c) ∈ cs) : getC cs w = some c := by
  induction cs with
  | nil => cases h
  | cons p r ih =>
    (rw [List.map_cons, List.nodup_cons] at hn)
    (rcases List.mem_cons.mp h with e | m)
    · rw [← e]
      exact getC_pos rfl
    · have : ¬ p.1 = w := fun e => hn.1 (e ▸ List.mem_map.mpr ⟨_, m, rfl⟩)
      rw [getC_neg this]
      exact ih hn.2 m
theorem getC_map (k j : List Nat) (y : Int) : ∀ cs : Cst, getC (cs.map fun p => if p.1 = k then (p.1, y) else p) j = (getC cs j).map fun x => if j = k then y else x
  | [] => rfl
  | p :: r => by
    have ih := getC_map k j y r
    rw [List.map_cons]
    by_cases h : p.1 = k
    · rw [if_pos h]
      by_cases e : p.1 = j
      · rw [getC_pos (p := (p.1, y)) e, getC_pos e, Option.map_some, if_pos (e.symm.trans h)]
      · rw [getC_neg (p := (p.1, y)) e, getC_neg e, ih]
    · rw [if_neg h]
      by_cases e : p.1 = j
      · rw [getC_pos (p := p) e, getC_pos e, Option.map_some, if_neg (fun z => h (e.trans z))]
      · rw [getC_neg (p := p) e, getC_neg e, ih]
theorem getC_snoc (k j : List Nat) (y : Int) : ∀ cs : Cst, getC cs k = none → getC (cs ++ [(k, y)]) j = if j = k then some y else getC cs j
  | [], _ => by
    by_cases e : k = j
    · rw [if_pos e.symm]; exact getC_pos (p := (k, y)) e
    · rw [if_neg (fun z => e z.symm)]; exact getC_neg (p := (k, y)) e
  | p :: r, hn => by
    rw [List.cons_append]
    have hk : ¬ p.1 = k := fun z => by rw [getC_pos z] at hn; cases hn
    rw [getC_neg hk] at hn
    have ih := getC_snoc k j y r hn
    by_cases e : p.1 = j
    · rw [getC_pos e, getC_pos e, if_neg (fun z => hk (e.trans z))]
    · rw [getC_neg e, getC_neg e, ih]
theorem getC_put (cs : Cst) (k j : List Nat) (y : Int) : getC (putC cs k y) j = if j = k then some y else getC cs j := by
  unfold putC
  by_cases a : (cs.any fun p => decide (p.1 = k)) = true
  · rw [if_pos a, getC_map]
    rw [getC_any] at a
    by_cases e : j = k
    · (obtain ⟨x, hx⟩ := Option.isSome_iff_exists.mp a)
      (rw [if_pos e, e, hx, Option.map_some, if_pos rfl])
    · rw [if_neg e]
      cases getC cs j with
      | none => rfl
      | some x => (rw [Option.map_some, if_neg e])
  · rw [if_neg a]
    refine getC_snoc k j y cs ?_
    rw [getC_any] at a
    cases q : getC cs k with
    | none => rfl
    | some x => (rw [q] at a; exact (a rfl).elim)
theorem putC_keys (cs : Cst) (k : List Nat) (y : Int) : (putC cs k y).map (·.1) = if k ∈ cs.map (·.1) then cs.map (·.1) else cs.map (·.1) ++ [k] := by
  unfold putC
  rw [getC_any]
  by_cases h : k ∈ cs.map (·.1)
  · rw [if_pos h, if_pos (getC_key.mpr h), List.map_map]
    apply List.map_congr_left
    intro p _
    show (if p.1 = k then (p.1, y) else p).1 = p.1
    split <;> rfl
  · rw [if_neg h, if_neg (fun z => h (getC_key.mp z))]
    simp
theorem putC_nodup {cs : Cst} (h : (cs.map (·.1)).Nodup) (k : List Nat) (y : Int) : ((putC cs k y).map (·.1)).Nodup := by
  rw [putC_keys]
  split
  · exact h
  · rename_i n
    rw [List.nodup_append]
    refine ⟨h, by simp, fun a ha b hb => ?_⟩
    rw [List.mem_singleton.mp hb]
    rintro rfl
    exact n ha
theorem putC_new {cs : Cst} {k : List Nat} (y : Int) (h : getC cs k = none) : putC cs k y = cs ++ [(k, y)] := by
  unfold putC
  rw [getC_any, h]
  exact if_neg (by decide)
/-! ### lists without doubles -/
theorem nodup_le {α : Type} [DecidableEq α] : ∀ {l m : List α}, l.Nodup → (∀ x ∈ l, x ∈ m) → l.length ≤ m.length
  | [], _, _, _ => (Nat.zero_le _)
  | x :: l, m, h, s => by
    rw [List.nodup_cons] at h
    have hx := s x List.mem_cons_self
    have i := nodup_le (l := l) (m := m.erase x) h.2 fun y my => (List.mem_erase_of_ne (by rintro rfl; exact h.1 my)).mpr (s y (List.mem_cons_of_mem _ my))
    rw [List.length_erase_of_mem hx] at i
    have := List.length_pos_of_mem hx
    rw [List.length_cons]
    omega
theorem nodup_eq {α : Type} [DecidableEq α] {l m : List α} (h : l.Nodup) (s : ∀ x ∈ l, x ∈ m) (le : m.length ≤ l.length) {x : α} (hx : x ∈ m) : x ∈ l := by
  by_cases e : x ∈ l
  · exact e
  · have := nodup_le (l := x :: l) (m := m) (List.nodup_cons.mpr ⟨e, h⟩) fun y my => by
      rcases List.mem_cons.mp my with rfl | my
      · exact hx
      · exact s y my
    rw [List.length_cons] at this
    omega
/-- all arrangements of n crates, in order -/
def allW : Nat → List (List Nat)
  | 0 => [[]]
  | n + 1 => [0, 1, 2].flatMap fun d => (allW n).map (d :: ·)
theorem allW_len : ∀ n, (allW n).length = 3 ^ n
  | 0 => rfl
  | n + 1 => by
    have := allW_len n
    simp [allW, this, Nat.pow_succ]
    omega
theorem mem_allW : ∀ {n : Nat} {w : List Nat}, w.length = n → D3 w → w ∈ allW n
  | 0, w, h, _ => by
    rw [List.eq_nil_of_length_eq_zero h]
    exact List.mem_singleton.mpr rfl
  | n + 1, [], h, _ => by cases h
  | n + 1, d :: w, h, g => by
    have hd := g d List.mem_cons_self
    have hw := mem_allW (n := n) (w := w) (Nat.succ.inj h) fun x m => g x (List.mem_cons_of_mem _ m)
    refine List.mem_flatMap.mpr ⟨d, ?_, List.mem_map.mpr ⟨w, hw, rfl⟩⟩
    have : d = 0 ∨ d = 1 ∨ d = 2 := by omega
    rcases this with rfl | rfl | rfl <;> simp
/-! ### going through all arrangements, the nearest first -/
structure Dij (rows : LL) (s : List Nat) (cs ds : Cst) : Prop where
  kn : (cs.map (·.1)).Nodup
  dn : (ds.map (·.1)).Nodup
  wl : ∀ w c, getC cs w = some c → Wlk rows s w c
  st : getC cs s = some 0
  sub : ∀ w c, getC ds w = some c → getC cs w = some c
  ord : ∀ w c x e, getC ds w = some c → getC cs x = some e → getC ds x = none → c ≤ e
  out : ∀ w c, getC ds w = some c → ∀ x p, Stp rows w x p → ∃ e, getC cs x = some e ∧ e ≤ c + p
theorem Dij.start {rows : LL} {s : List Nat} : Dij rows s [(s, 0)] [] where
  kn := by simp
  dn := by simp
  wl := fun w c h => by
    by_cases e : s = w
    · subst e
      rw [getC_pos rfl] at h
      injection h with h
      rw [← h]
      exact .nil
    · rw [getC_neg e] at h
      cases h
  st := getC_pos rfl
  sub := fun w c h => by cases h
  ord := fun w c x e h => by cases h
  out := fun w c h => by cases h
/-- within: the moves behind u, seen so far -/
structure DijI (rows : LL) (s : List Nat) (u : List Nat) (k : Int) (seen : List (List Nat × Int)) (cs ds : Cst) : Prop where
  kn : (cs.map (·.1)).Nodup
  dn : (ds.map (·.1)).Nodup
  wl : ∀ w c, getC cs w = some c → Wlk rows s w c
  st : getC cs s = some 0
  sub : ∀ w c, getC ds w = some c → getC cs w = some c
  ord : ∀ x e, getC cs x = some e → getC ds x = none → k ≤ e
  top : ∀ w c, getC ds w = some c → c ≤ k
  at_ : getC ds u = some k
  out : ∀ w c, getC ds w = some c → ∀ x p, Stp rows w x p → (w = u → (x, p) ∈ seen) → ∃ e, getC cs x = some e ∧ e ≤ c + p
theorem Dij.enter {rows : LL} {s u : List Nat} {k : Int} {cs ds : Cst} (h : Dij rows s cs ds) (hu : getC cs u = some k) (hd : getC ds u = none) (least : ∀ x e, getC cs x = some e → getC ds x = none → k ≤ e) :
    DijI rows s u k [] cs (putC ds u k) where
  kn := h.kn
  dn := putC_nodup h.dn _ _
  wl := h.wl
  st := h.st
  sub := fun w c z => by
    rw [getC_put] at z
    split at z
    · rename_i e
      injection z with z
      rw [e, ← z]
      exact hu
    · exact h.sub w c z
  ord := fun x e z n => by
    rw [getC_put] at n
    split at n
    · cases n
    · exact least x e z n
  top := fun w c z => by
    rw [getC_put] at z
    split at z
    · injection z with z
      omega
    · exact h.ord w c u k z hu hd
  at_ := by rw [getC_put, if_pos rfl]
  out := fun w c z x p g q => by
    rw [getC_put] at z
    split at z
    · rename_i e
      exact absurd (q e) (by simp)
    · exact h.out w c z x p g
theorem DijI.leave {rows : LL} {s u : List Nat} {k : Int} {ms : List (List Nat × Int)} {cs ds : Cst} (h : DijI rows s u k ms cs ds) (all : ∀ x p, Stp rows u x p → (x, p) ∈ ms) : Dij rows s cs ds where
  kn := h.kn
  dn := h.dn
  wl := h.wl
  st := h.st
  sub := h.sub
  ord := fun w c x e z1 z2 z3 => Int.le_trans (h.top w c z1) (h.ord x e z2 z3)
  out := fun w c z x p g => h.out w c z x p g fun e => all x p (e ▸ g)
/-- one move seen: a cost that is new or less is kept -/
def relax (cs : Cst) (x : List Nat) (a : Int) : Cst := match getC cs x with
  | none => putC cs x a
  | some e => if a < e then putC cs x a else cs
def better (o : Option Int) (a : Int) : Int := match o with
  | none => a
  | some e => if a < e then a else e
theorem better_le (o : Option Int) (a : Int) : better o a ≤ a ∧ (∀ e, o = some e → better o a ≤ e) ∧ (better o a = a ∨ o = some (better o a)) := by
  cases o with
  | none => exact ⟨Int.le_refl a, (fun e z => nomatch z), .inl rfl⟩
  | some e =>
    unfold better
    by_cases lt : a < e
    · simp only [lt, if_true]
      exact ⟨Int.le_refl a, fun f z => by injection z with z; omega, .inl (by simp)⟩
    · simp only [lt, if_false]
      exact ⟨by omega, fun f z => by injection z with z; omega, .inr (by simp)⟩
theorem relax_get (cs : Cst) (x : List Nat) (a : Int) (j : List Nat) : getC (relax cs x a) j = if j = x then some (better (getC cs x) a) else getC cs j := by
  unfold relax better
  cases h : getC cs x with
  | none => rw [getC_put]
  | some e =>
    by_cases lt : a < e
    · simp only [lt, if_true]
      rw [getC_put]
    · simp only [lt, if_false]
      split
      · rename_i z
        rw [z, h]
      · rfl
theorem DijI.see {rows : LL} {s u x : List Nat} {k p : Int} {ms : List (List Nat × Int)} {cs ds : Cst} (hP : PosR rows) (h : DijI rows s u k ms cs ds) (g : Stp rows u x p) : DijI rows s u k (ms ++ [(x, p)]) (relax cs x (k + p)) ds := by
  have pp := g.pos hP
  have wu := h.wl u k (h.sub u k h.at_)
  have k0 := wu.nonneg hP
  have wx : Wlk rows s x (k + p) := wu.trans (.one g)
  have kn : ((relax cs x (k + p)).map (·.1)).Nodup := by
    unfold relax
    cases getC cs x with
    | none => exact putC_nodup h.kn _ _
    | some e =>
      dsimp only
      split
      · exact putC_nodup h.kn _ _
      · exact h.kn
  obtain ⟨b1, b2, b3⟩ := better_le (getC cs x) (k + p)
  have rg := relax_get cs x (k + p)
  generalize better (getC cs x) (k + p) = b at *
  refine ⟨kn, h.dn, fun w c z => ?_, ?_, fun w c z => ?_, fun y e z n => ?_, h.top, h.at_, fun w c z y q st sn => ?_⟩
  · rw [rg] at z
    split at z
    · rename_i e
      subst e
      injection z with z
      subst z
      rcases b3 with e | e
      · rw [e]; exact wx
      · exact h.wl w b e
    · exact h.wl w c z
  · rw [rg]
    split
    · rename_i e
      subst e
      have := b2 0 h.st
      rcases b3 with e | e
      · omega
      · rw [← e, h.st]
    · exact h.st
  · have a := h.sub w c z
    have t := h.top w c z
    rw [rg]
    split
    · rename_i e
      subst e
      have := b2 c a
      rcases b3 with e | e
      · omega
      · rw [← e, a]
    · exact a
  · rw [rg] at z
    split at z
    · rename_i ey
      injection z with z
      subst ey z
      rcases b3 with e | e
      · omega
      · exact h.ord y b e n
    · exact h.ord y e z n
  · have old : (w = u → (y, q) ∈ ms) → ∃ e, getC (relax cs x (k + p)) y = some e ∧ e ≤ c + q := fun sn => by
      obtain ⟨e, he, le⟩ := h.out w c z y q st sn
      rw [rg]
      split
      · rename_i ey
        subst ey
        have := b2 e he
        exact ⟨b, rfl, by omega⟩
      · exact ⟨e, he, le⟩
    by_cases ew : w = u
    · subst ew
      rcases List.mem_append.mp (sn rfl) with m | m
      · exact old fun _ => m
      · have := List.mem_singleton.mp m
        injection this with e1 e2
        subst e1 e2
        have ck : c = k := by
          have := h.at_
          rw [z] at this
          exact Option.some.inj this
        rw [rg, if_pos rfl]
        exact ⟨b, rfl, by omega⟩
    · exact old fun e => absurd e ew
theorem Dij.few {rows : LL} {s : List Nat} {cs ds : Cst} (h : Dij rows s cs ds) (h3 : D3 s) : cs.length ≤ 3 ^ s.length := by
  rw [← allW_len, ← List.length_map (f := fun p : List Nat × Int => p.1) (as := cs)]
  refine nodup_le h.kn fun w m => ?_
  obtain ⟨c, hc⟩ := Option.isSome_iff_exists.mp (getC_key.mpr m)
  have := h.wl w c hc
  exact mem_allW this.len (this.d3 h3)
theorem DijI.few {rows : LL} {s u : List Nat} {k : Int} {ms : List (List Nat × Int)} {cs ds : Cst} (h : DijI rows s u k ms cs ds) (h3 : D3 s) : cs.length ≤ 3 ^ s.length := by
  rw [← allW_len, ← List.length_map (f := fun p : List Nat × Int => p.1) (as := cs)]
  refine nodup_le h.kn fun w m => ?_
  obtain ⟨c, hc⟩ := Option.isSome_iff_exists.mp (getC_key.mpr m)
  have := h.wl w c hc
  exact mem_allW this.len (this.d3 h3)
theorem sub_keys {cs ds : Cst} (sub : ∀ w c, getC ds w = some c → getC cs w = some c) : ∀ w ∈ ds.map (·.1), w ∈ cs.map (·.1) := fun w m => by
  obtain ⟨c, hc⟩ := Option.isSome_iff_exists.mp (getC_key.mpr m)
  exact getC_key.mp (by rw [sub w c hc]; rfl)
/-- some is left -/
theorem Dij.left {rows : LL} {s : List Nat} {cs ds : Cst} (h : Dij rows s cs ds) (lt : ds.length < cs.length) : ∃ w c, (w, c) ∈ cs ∧ getC ds w = none := by
  refine Classical.byContradiction fun no => ?_
  have := nodup_le h.kn (m := ds.map (·.1)) fun w m => by
    obtain ⟨p, mp, e⟩ := List.mem_map.mp m
    cases q : getC ds w with
    | none => exact absurd ⟨w, p.2, by rw [← e]; exact mp, q⟩ no
    | some c => exact getC_key.mp (by rw [q]; rfl)
  simp at this
  omega
theorem Dij.done {rows : LL} {s : List Nat} {cs ds : Cst} (h : Dij rows s cs ds) (ge : cs.length ≤ ds.length) (hP : PosR rows) : ∀ x, Least rows s x (getC ds x) := by
  have same : ∀ w c, getC cs w = some c → getC ds w = some c := fun w c hc => by
    have m := nodup_eq h.dn (sub_keys h.sub) (by simpa using ge) (x := w) (getC_key.mp (by rw [hc]; rfl))
    obtain ⟨d, hd⟩ := Option.isSome_iff_exists.mp (getC_key.mpr m)
    have := h.sub w d hd
    rw [hc] at this
    rw [hd, ← this]
  have key : ∀ {w x : List Nat} {C : Int}, Wlk rows w x C → ∀ c, getC ds w = some c → ∃ e, getC ds x = some e ∧ e ≤ c + C := by
    intro w x C k
    induction k with
    | nil => exact fun c hc => ⟨c, hc, by omega⟩
    | cons g _ ih =>
      intro c hc
      obtain ⟨e, he, le⟩ := h.out _ c hc _ _ g
      obtain ⟨f, hf, le2⟩ := ih e (same _ _ he)
      exact ⟨f, hf, by omega⟩
  have s0 := same s 0 h.st
  intro x
  cases q : getC ds x with
  | none =>
    intro C w
    obtain ⟨e, he, _⟩ := key w 0 s0
    rw [q] at he
    cases he
  | some v =>
    refine ⟨h.wl x v (h.sub x v q), fun C w => ?_⟩
    obtain ⟨e, he, le⟩ := key w 0 s0
    rw [q] at he
    injection he with he
    omega
/-! ### the list of the moves -/
def nextP (r : List (Option Int)) (d : Nat) (es : List Nat) (p : Nat) : List (List Nat × Int) := if p ≠ d ∧ d ∉ es ∧ p ∉ es then (match prF r d p with | some c => [(p :: es, c)] | none => []) else []
def nextL : LL → List Nat → List (List Nat × Int)
  | r :: rs, d :: es => ([0, 1, 2].flatMap fun p => nextP r d es p) ++ (nextL rs es).map fun q => (d :: q.1, q.2)
  | _, _ => []
theorem mem_nextP {r : List (Option Int)} {d p : Nat} {es x : List Nat} {c : Int} : (x, c) ∈ nextP r d es p ↔ (p ≠ d ∧ d ∉ es ∧ p ∉ es) ∧ prF r d p = some c ∧ x = p :: es := by
  unfold nextP
  split
  · rename_i h
    cases e : prF r d p with
    | none => simp
    | some v =>
      constructor
      · intro m
        have := List.mem_singleton.mp m
        injection this with e1 e2
        exact ⟨h, by rw [e2], e1⟩
      · rintro ⟨_, e1, e2⟩
        injection e1 with e1
        rw [e1, e2]
        exact List.mem_singleton.mpr rfl
  · rename_i h
    constructor
    · intro m; cases m
    · rintro ⟨g, _⟩
      exact absurd g h
theorem mem_next : ∀ {rows : LL} {w x : List Nat} {c : Int}, w.length = rows.length → D3 w → ((x, c) ∈ nextL rows w ↔ Stp rows w x c)
  | [], w, x, c, hl, h3 => by
    constructor
    · intro m; cases w <;> cases m
    · intro g; cases g
  | r :: rs, [], x, c, hl, h3 => by cases hl
  | r :: rs, d :: es, x, c, hl, h3 => by
    have ih := fun x c => mem_next (rows := rs) (w := es) (x := x) (c := c) (Nat.succ.inj hl) fun y m => h3 y (List.mem_cons_of_mem _ m)
    unfold nextL
    rw [List.mem_append]
    constructor
    · rintro (m | m)
      · obtain ⟨p, mp, m⟩ := List.mem_flatMap.mp m
        obtain ⟨⟨h1, h2, h3'⟩, h4, rfl⟩ := mem_nextP.mp m
        refine .big (h3 d List.mem_cons_self) ?_ h1 h2 h3' h4
        simp only [List.mem_cons, List.not_mem_nil, or_false] at mp
        omega
      · obtain ⟨q, mq, e⟩ := List.mem_map.mp m
        injection e with e1 e2
        subst e1 e2
        exact .small ((ih q.1 q.2).mp mq)
    · intro g
      cases g with
      | big hd hp ne h1 h2 hc =>
        refine .inl (List.mem_flatMap.mpr ⟨_, ?_, mem_nextP.mpr ⟨⟨ne, h1, h2⟩, hc, rfl⟩⟩)
        rename_i p
        have : p = 0 ∨ p = 1 ∨ p = 2 := by omega
        rcases this with rfl | rfl | rfl <;> simp
      | small g => exact .inr (List.mem_map.mpr ⟨(_, c), (ih _ c).mpr g, rfl⟩)
theorem towO_drop (rows : LL) {k : Nat} (h : k ≤ rows.length) : towO rows k = levelO ((rows.drop (rows.length - k)).map prF) := by
  unfold towO
  rw [List.take_reverse, List.map_reverse, List.reverse_reverse]
end U
namespace U
open PySem PySem.Spec PyProof.Rows L2

/-! ### what the numbers to and from the towers stand for -/
def toO : LL → List Nat → Nat → Option Int
  | r :: rs, d :: es, j => if j = d then toO rs es j else omin (osum [toO rs es (3 - d - j), prF r d j, levelO (rs.map prF) (3 - d - j) j]) (osum [toO rs es j, prF r d (3 - d - j), levelO (rs.map prF) j d, prF r (3 - d - j) j, levelO (rs.map prF) d j])
  | _, _, _ => some 0
theorem d3_tail {d : Nat} {es : List Nat} (h : D3 (d :: es)) : D3 es := fun x m => h x (List.mem_cons_of_mem _ m)
theorem least_to : ∀ {rows : LL} {ds : List Nat}, PosR rows → ds.length = rows.length → D3 ds → ∀ j, j < 3 → Least rows ds (twr rows.length j) (toO rows ds j)
  | [], ds, hP, hl, h3, j, hj => by
    have : ds = [] := List.eq_nil_of_length_eq_zero hl
    subst this
    exact least_refl hP
  | r :: rs, [], hP, hl, h3, j, hj => by cases hl
  | r :: rs, d :: es, hP, hl, h3, j, hj => by
    have hl' : es.length = rs.length := Nat.succ.inj hl
    have ih := fun i hi => least_to (rows := rs) (ds := es) hP.tail hl' (d3_tail h3) i hi
    have hd := h3 d List.mem_cons_self
    have lt := fun i j hi hj n => least_towers rs hP.tail i j hi hj n
    show Least (r :: rs) (d :: es) (j :: twr rs.length j) _
    unfold toO
    by_cases e : j = d
    · subst e
      rw [if_pos rfl]
      exact least_same hP hj (d3_tail h3) (ih j hj)
    · rw [if_neg e]
      have t3 : 3 - d - j < 3 ∧ 3 - d - j ≠ d ∧ 3 - d - j ≠ j := by omega
      refine least_apart hP hd hj (fun z => e z.symm) (d3_tail h3) ?_ ?_ ?_ ?_ ?_
      · rw [hl']; exact ih _ t3.1
      · rw [hl']; exact lt _ j t3.1 hj t3.2.2
      · rw [hl']; exact ih j hj
      · rw [hl']; exact lt j d hj hd e
      · rw [hl']; exact lt d j hd hj (fun z => e z.symm)
/-- the numbers of a row -/
theorem row_stands {rows : LL} {g : Int} (hg : Great rows g) (h6 : ∀ r ∈ rows, r.length = 6) {r : List (Option Int)} (m : r ∈ rows) {i j : Nat} (hi : i < 3) (hj : j < 3) (n : i ≠ j) : Stands (g * 4 ^ rows.length) g (prF r i j) (fnOf (rowI (g * 4 ^ rows.length) r) i j) := price_stands hg h6 m hi hj n
theorem toQ_stands {rows : LL} {g : Int} {ds : List Nat} (hg : Great rows g) (h6 : ∀ r ∈ rows, r.length = 6) (hl : ds.length = rows.length) (h3 : D3 ds) : ∀ k, k ≤ rows.length → ∀ i, i < 3 →
    Stands (g * 4 ^ rows.length) (mostN g k) (toO (rows.drop (rows.length - k)) (ds.drop (rows.length - k)) i) (toQ (qsOf g rows) ds.reverse k i) := by
  intro k
  induction k with
  | zero =>
    intro _ i _
    rw [Nat.sub_zero, List.drop_length]
    exact ⟨rfl, Int.le_refl _, Int.le_refl _⟩
  | succ k ih =>
    intro hk j hj
    have ih := ih (by omega)
    have pos : (0 : Int) ≤ g * 4 ^ rows.length := Int.mul_nonneg (Int.le_of_lt hg.1) (Int.pow_nonneg (by decide))
    have lt : rows.length - (k + 1) < rows.length := by omega
    have lt2 : rows.length - (k + 1) < ds.length := by omega
    have er : rows.drop (rows.length - (k + 1)) = rows[rows.length - (k + 1)] :: rows.drop (rows.length - k) := by
      rw [List.drop_eq_getElem_cons lt, show rows.length - (k + 1) + 1 = rows.length - k by omega]
    have ed : ds.drop (rows.length - (k + 1)) = ds[rows.length - (k + 1)] :: ds.drop (rows.length - k) := by
      rw [List.drop_eq_getElem_cons lt2, show rows.length - (k + 1) + 1 = rows.length - k by omega]
    have qk : (qsOf g rows)[k]? = some (rowI (g * 4 ^ rows.length) rows[rows.length - (k + 1)]) := by
      unfold qsOf
      rw [List.getElem?_map, List.getElem?_reverse (by omega), show rows.length - 1 - k = rows.length - (k + 1) by omega, List.getElem?_eq_getElem lt]
      rfl
    have sk : ds.reverse[k]? = some ds[rows.length - (k + 1)] := by
      rw [List.getElem?_reverse (by omega), show ds.length - 1 - k = rows.length - (k + 1) by omega, List.getElem?_eq_getElem lt2]
    have next : toQ (qsOf g rows) ds.reverse (k + 1) = fromP (fnOf (rowI (g * 4 ^ rows.length) rows[rows.length - (k + 1)])) (levelQ (qsOf g rows) k) (toQ (qsOf g rows) ds.reverse k) ds[rows.length - (k + 1)] := by
      show fromP (fnOf (((qsOf g rows)[k]?).getD [])) _ _ ((ds.reverse[k]?).getD 0) = _
      rw [qk, sk]
      rfl
    have mr : rows[rows.length - (k + 1)] ∈ rows := List.getElem_mem lt
    have md : ds[rows.length - (k + 1)] < 3 := h3 _ (List.getElem_mem lt2)
    have lv := levelQ_stands hg h6 k (by omega)
    rw [towO_drop rows (by omega)] at lv
    have lvq : ∀ i j, i < 3 → j < 3 → i ≠ j → Stands (g * 4 ^ rows.length) (mostN g k) (levelO ((rows.drop (rows.length - k)).map prF) i j) (levelQ (qsOf g rows) k i j) := lv
    have ps := fun i j hi hj n => row_stands hg h6 mr (i := i) (j := j) hi hj n
    rw [er, ed, next]
    generalize rows[rows.length - (k + 1)] = r at *
    generalize ds[rows.length - (k + 1)] = d at *
    generalize rows.drop (rows.length - k) = rs at *
    generalize ds.drop (rows.length - k) = es at *
    generalize levelQ (qsOf g rows) k = L at *
    generalize toQ (qsOf g rows) ds.reverse k = T at *
    unfold toO fromP
    have em : mostN g (k + 1) = 3 * mostN g k + 2 * g := rfl
    have m0 := mostN_nonneg (Int.le_of_lt hg.1) k
    have g0 := hg.1
    by_cases e : j = d
    · rw [if_pos e, if_pos e]
      exact (ih j hj).mono (by omega)
    · rw [if_neg e, if_neg e]
      have t3 : 3 - d - j < 3 ∧ d ≠ 3 - d - j ∧ 3 - d - j ≠ j := by omega
      have a := osum3 pos (ih _ t3.1) (ps d j md hj (fun z => e z.symm)) (lvq _ j t3.1 hj t3.2.2)
      have b := osum5 pos (ih j hj) (ps d _ md t3.1 t3.2.1) (lvq j d hj md e) (ps _ j t3.1 hj t3.2.2) (lvq d j md hj (fun z => e z.symm))
      have hM := mostN_bound (n := rows.length) hg.1 hk
      exact (omin2 (a.mono (M' := mostN g (k + 1)) (by omega)) (b.mono (M' := mostN g (k + 1)) (by omega)) hM hM).mono (by omega)
theorem toT_eq {rows : LL} {g : Int} {ds : List Nat} (hg : Great rows g) (h6 : ∀ r ∈ rows, r.length = 6) (hl : ds.length = rows.length) (h3 : D3 ds) {i : Nat} (hi : i < 3) : toT g rows ds i = toO rows ds i := by
  have s := toQ_stands hg h6 hl h3 rows.length (Nat.le_refl _) i hi
  rw [Nat.sub_self, List.drop_zero, List.drop_zero] at s
  exact s.told (mostN_bound hg.1 (Nat.le_refl _))
/-! ### the ways back -/
def turnO (r : List (Option Int)) : List (Option Int) := six fun i j => prF r j i
theorem prF_turn {r : List (Option Int)} {i j : Nat} (hi : i < 3) (hj : j < 3) (n : i ≠ j) : prF (turnO r) i j = prF r j i := by
  rcases (show i = 0 ∧ j = 1 ∨ i = 0 ∧ j = 2 ∨ i = 1 ∧ j = 0 ∨ i = 1 ∧ j = 2 ∨ i = 2 ∧ j = 0 ∨ i = 2 ∧ j = 1 by omega) with ⟨rfl, rfl⟩ | ⟨rfl, rfl⟩ | ⟨rfl, rfl⟩ | ⟨rfl, rfl⟩ | ⟨rfl, rfl⟩ | ⟨rfl, rfl⟩ <;> rfl
theorem Stp.turn {rows : LL} {s t : List Nat} {c : Int} (h : Stp rows s t c) : Stp (rows.map turnO) t s c := by
  induction h with
  | big hd hp ne h1 h2 hc => exact .big hp hd (fun z => ne z.symm) h2 h1 (by rw [prF_turn hp hd ne]; exact hc)
  | small h ih => exact .small ih
theorem Wlk.turn {rows : LL} {s t : List Nat} {c : Int} (h : Wlk rows s t c) : Wlk (rows.map turnO) t s c := by
  induction h with
  | nil => exact .nil
  | cons h w ih =>
    have := ih.trans (.one h.turn)
    rwa [Int.add_comm] at this
theorem turn_turn {rows : LL} (h6 : ∀ r ∈ rows, r.length = 6) : (rows.map turnO).map turnO = rows := by
  rw [List.map_map]
  refine (List.map_congr_left fun r m => ?_).trans (List.map_id rows)
  have := h6 r m
  match r, this with
  | [a, b, c, d, e, f], _ => rfl
theorem least_turn {rows : LL} (h6 : ∀ r ∈ rows, r.length = 6) {s t : List Nat} {o : Option Int} (h : Least (rows.map turnO) s t o) : Least rows t s o := by
  cases o with
  | none => exact fun C w => h C w.turn
  | some v =>
    refine ⟨?_, fun C w => h.2 C w.turn⟩
    have := h.1.turn
    rwa [turn_turn h6] at this
theorem turn_great {rows : LL} {g : Int} (hg : Great rows g) : Great (rows.map turnO) g := by
  refine ⟨hg.1, hg.2.1, fun p m => ?_⟩
  obtain ⟨r', mr, m2⟩ := List.mem_flatMap.mp m
  obtain ⟨r, mr2, rfl⟩ := List.mem_map.mp mr
  obtain ⟨o, mo, e⟩ := List.mem_filterMap.mp m2
  have e : o = some p := e
  subst e
  obtain ⟨w, _, ew⟩ := List.mem_map.mp mo
  exact hg.2.2 p (List.mem_flatMap.mpr ⟨r, mr2, List.mem_filterMap.mpr ⟨some p, prF_mem ew, rfl⟩⟩)
theorem turn_six {rows : LL} : ∀ r ∈ rows.map turnO, r.length = 6 := fun r m => by
  obtain ⟨_, _, rfl⟩ := List.mem_map.mp m
  rfl
theorem turn_pos {rows : LL} (h : PosR rows) : PosR (rows.map turnO) := fun r' mr v mv => by
  obtain ⟨r, mr2, rfl⟩ := List.mem_map.mp mr
  obtain ⟨w, _, ew⟩ := List.mem_map.mp mv
  exact h r mr2 v (prF_mem ew)
theorem qs_turn {rows : LL} {g : Int} (h6 : ∀ r ∈ rows, r.length = 6) : (qsOf g rows).map turnQ = qsOf g (rows.map turnO) := by
  unfold qsOf
  rw [List.length_map, ← List.map_reverse, List.map_map, List.map_map]
  refine List.map_congr_left fun r m => ?_
  have := h6 r (List.mem_reverse.mp m)
  match r, this with
  | [a, b, c, d, e, f], _ => rfl
theorem fromT_eq {rows : LL} {g : Int} {ds : List Nat} (hg : Great rows g) (h6 : ∀ r ∈ rows, r.length = 6) (hl : ds.length = rows.length) (h3 : D3 ds) {i : Nat} (hi : i < 3) : fromT g rows ds i = toO (rows.map turnO) ds i := by
  have e := toT_eq (turn_great hg) turn_six (by rw [List.length_map]; exact hl) h3 hi
  rw [← e]
  unfold fromT toT
  rw [qs_turn h6, List.length_map]
theorem least_from {rows : LL} {ds : List Nat} (hP : PosR rows) (h6 : ∀ r ∈ rows, r.length = 6) (hl : ds.length = rows.length) (h3 : D3 ds) {j : Nat} (hj : j < 3) : Least rows (twr rows.length j) ds (toO (rows.map turnO) ds j) := by
  have := least_to (turn_pos hP) (by rw [List.length_map]; exact hl) h3 j hj
  rw [List.length_map] at this
  exact least_turn h6 this
/-! ### between two arrangements -/
theorem least_drop {ds es : List Nat} : ∀ {k : Nat} {rows : LL} {ds es : List Nat} {o : Option Int}, PosR rows → ds.length = rows.length → es.length = rows.length → D3 ds → (∀ j, j < k → ds[j]? = es[j]?) → k ≤ ds.length → Least (rows.drop k) (ds.drop k) (es.drop k) o → Least rows ds es o
  | 0, rows, ds, es, o, _, _, _, _, _, _, h => h
  | k + 1, [], ds, es, o, _, hl, _, _, _, hk, _ => by rw [hl] at hk; cases hk
  | k + 1, r :: rs, [], es, o, _, hl, _, _, _, _, _ => by cases hl
  | k + 1, r :: rs, d :: ds, [], o, _, _, hl, _, _, _, _ => by cases hl
  | k + 1, r :: rs, d :: ds, e :: es, o, hP, h1, h2, h3, al, hk, h => by
    have e0 : d = e := Option.some.inj (al 0 (by omega))
    subst e0
    have hd := h3 d List.mem_cons_self
    refine least_same hP hd (d3_tail h3) ?_
    exact least_drop (ds := ds) (es := es) (k := k) hP.tail (Nat.succ.inj h1) (Nat.succ.inj h2) (d3_tail h3) (fun j hj => al (j + 1) (by omega)) (Nat.le_of_succ_le_succ hk) h
theorem PosR.drop {rows : LL} (h : PosR rows) (k : Nat) : PosR (rows.drop k) := fun r m => h r (List.mem_of_mem_drop m)
theorem D3.drop {ds : List Nat} (h : D3 ds) (k : Nat) : D3 (ds.drop k) := fun r m => h r (List.mem_of_mem_drop m)
theorem least_least {rows : LL} {g : Int} {ds es : List Nat} (hP : PosR rows) (hg : Great rows g) (h6 : ∀ r ∈ rows, r.length = 6) (h1 : ds.length = rows.length) (h2 : es.length = rows.length) (h3 : D3 ds) (h4 : D3 es) : Least rows ds es (leastT g rows ds es) := by
  have pos : (0 : Int) ≤ g * 4 ^ rows.length := Int.mul_nonneg (Int.le_of_lt hg.1) (Int.pow_nonneg (by decide))
  unfold leastT cheapQ
  cases hf : firstA ds es with
  | none =>
    have same : ds = es := by
      (refine List.ext_getElem? fun k => ?_)
      by_cases lt : k < ds.length
      · have := List.find?_eq_none.mp hf k (List.mem_range.mpr lt)
        simpa using this
      · rw [List.getElem?_eq_none (by omega), List.getElem?_eq_none (by omega)]
    subst same
    have b := mostN_bound (n := rows.length) (k := 0) hg.1 (Nat.zero_le _)
    have e : toldV (g * 4 ^ rows.length) 0 = some 0 := if_pos (by simpa [mostN] using b)
    rw [e]
    exact least_refl hP
  | some k =>
    obtain ⟨lk, ndk, al⟩ := firstA_lt hf
    have lr : k < rows.length := by omega
    refine least_drop (ds := ds) (es := es) (k := k) hP h1 h2 h3 al (by omega) ?_
    rw [List.drop_eq_getElem_cons lr, List.drop_eq_getElem_cons lk, List.drop_eq_getElem_cons (show k < es.length by omega)]
    have hd : ds[k]? = some ds[k] := List.getElem?_eq_getElem lk
    have he : es[k]? = some (es[k]'(by omega)) := List.getElem?_eq_getElem (by omega)
    have d3 : ds[k] < 3 := h3 _ (List.getElem_mem lk)
    have e3 : es[k]'(by omega) < 3 := h4 _ (List.getElem_mem _)
    rw [hd, he] at ndk
    have nij : ds[k] ≠ es[k]'(by omega) := fun z => ndk (by rw [z])
    obtain ⟨r, hr⟩ : ∃ r, r = ds.length - 1 - k := ⟨_, rfl⟩
    have er : rows.length - r = k + 1 := by omega
    have rr : r ≤ rows.length := by omega
    have qr : (qsOf g rows)[r]? = some (rowI (g * 4 ^ rows.length) rows[k]) := by
      unfold qsOf
      rw [List.getElem?_map, List.getElem?_reverse (by omega), show rows.length - 1 - r = k by omega, List.getElem?_eq_getElem lr]
      rfl
    have lD : (rows.drop (k + 1)).length = r := by rw [List.length_drop]; omega
    have ld : (ds.drop (k + 1)).length = r := by rw [List.length_drop]; omega
    have le : (es.drop (k + 1)).length = r := by rw [List.length_drop]; omega
    -- the parts of the lines
    have toS : ∀ i, i < 3 → Stands (g * 4 ^ rows.length) (mostN g r) (toO (rows.drop (k + 1)) (ds.drop (k + 1)) i) (toQ (qsOf g rows) (ds.drop (k + 1)).reverse r i) := fun i hi => by
      have s := toQ_stands hg h6 h1 h3 r rr i hi
      rw [er] at s
      have e : toQ (qsOf g rows) ds.reverse r = toQ (qsOf g rows) (ds.drop (k + 1)).reverse r := toQ_rev (by omega) (by rw [ld]; exact Nat.le_refl _)
      rwa [e] at s
    have frS : ∀ i, i < 3 → Stands (g * 4 ^ rows.length) (mostN g r) (toO ((rows.drop (k + 1)).map turnO) (es.drop (k + 1)) i) (toQ ((qsOf g rows).map turnQ) (es.drop (k + 1)).reverse r i) := fun i hi => by
      have s := toQ_stands (turn_great hg) turn_six (by rw [List.length_map]; exact h2) h4 r (by rw [List.length_map]; exact rr) i hi
      rw [List.length_map, er] at s
      have e : toQ (qsOf g (rows.map turnO)) es.reverse r = toQ (qsOf g (rows.map turnO)) (es.drop (k + 1)).reverse r := toQ_rev (by omega) (by rw [le]; exact Nat.le_refl _)
      rw [e, ← qs_turn h6, ← List.map_drop] at s
      exact s
    have lvS : ∀ i j, i < 3 → j < 3 → i ≠ j → Stands (g * 4 ^ rows.length) (mostN g r) (levelO ((rows.drop (k + 1)).map prF) i j) (levelQ (qsOf g rows) r i j) := fun i j hi hj n => by
      have s := levelQ_stands hg h6 r rr i j hi hj n
      rw [towO_drop rows rr, er] at s
      exact s
    have mr : rows[k] ∈ rows := List.getElem_mem lr
    have ps := fun i j hi hj n => row_stands hg h6 mr (i := i) (j := j) hi hj n
    have h6' : ∀ r ∈ rows.drop (k + 1), r.length = 6 := fun r m => h6 r (List.mem_of_mem_drop m)
    have lto := fun i hi => least_to (hP.drop (k + 1)) (by rw [ld, lD]) (h3.drop (k + 1)) i hi
    have lfr := fun {j} hj => least_from (hP.drop (k + 1)) h6' (by rw [le, lD]) (h4.drop (k + 1)) (j := j) hj
    have lt := fun i j hi hj n => least_towers (rows.drop (k + 1)) (hP.drop (k + 1)) i j hi hj n
    rw [lD] at lto lfr lt
    have hPc : PosR (rows[k] :: rows.drop (k + 1)) := by
      rw [← List.drop_eq_getElem_cons lr]
      exact hP.drop k
    simp only [hd, he, ← hr, qr, Option.getD_some]
    have d3' := h3.drop (k + 1)
    generalize ds[k] = i at *
    generalize es[k]'(by omega) = j at *
    have t3 : 3 - i - j < 3 ∧ i ≠ 3 - i - j ∧ 3 - i - j ≠ j := by omega
    have ap := least_apart (r := rows[k]) (es := ds.drop (k + 1)) (fs := es.drop (k + 1)) hPc d3 e3 nij d3' (by rw [ld]; exact lto _ t3.1) (by rw [ld]; exact lfr t3.1) (by rw [ld]; exact lto j e3) (by rw [ld]; exact lt j i e3 d3 nij.symm) (by rw [ld]; exact lfr d3)
    have a := osum3 pos (toS _ t3.1) (ps i j d3 e3 nij) (frS _ t3.1)
    have b := osum5 pos (toS j e3) (ps i _ d3 t3.1 t3.2.1) (lvS j i e3 d3 nij.symm) (ps _ j t3.1 e3 t3.2.2) (frS i d3)
    have em : mostN g (r + 1) = 3 * mostN g r + 2 * g := rfl
    have m0 := mostN_nonneg (Int.le_of_lt hg.1) r
    have g0 := hg.1
    have hM := mostN_bound (n := rows.length) hg.1 (show r + 1 ≤ rows.length by omega)
    have fin := (omin2 (a.mono (M' := mostN g (r + 1)) (by omega)) (b.mono (M' := mostN g (r + 1)) (by omega)) hM hM).told (by rw [show max (mostN g (r + 1)) (mostN g (r + 1)) = mostN g (r + 1) by omega]; exact hM)
    have fin : toldV (g * 4 ^ rows.length) (min (bl1 (fnOf (rowI (g * 4 ^ rows.length) rows[k])) (toQ (qsOf g rows) (ds.drop (k + 1)).reverse r) (toQ ((qsOf g rows).map turnQ) (es.drop (k + 1)).reverse r) i j) (bl2 (fnOf (rowI (g * 4 ^ rows.length) rows[k])) (levelQ (qsOf g rows) r) (toQ (qsOf g rows) (ds.drop (k + 1)).reverse r) (toQ ((qsOf g rows).map turnQ) (es.drop (k + 1)).reverse r) i j)) = _ := fin
    rw [fin]
    exact ap
where
  toQ_rev {qs : List (List Int)} {ds : List Nat} {k r : Nat} (h : k + 1 + r ≤ ds.length) (hl : r ≤ (ds.drop (k + 1)).length) : toQ qs ds.reverse r = toQ qs (ds.drop (k + 1)).reverse r := by
    have at_ : ∀ j, j < r → ds.reverse[j]? = (ds.drop (k + 1)).reverse[j]? := fun j hj => by
      rw [List.getElem?_reverse (by omega), List.getElem?_reverse (by omega), List.getElem?_drop, List.length_drop]
      congr 1
      rw [List.length_drop] at hl
      omega
    have key : ∀ j, j ≤ r → toQ qs ds.reverse j = toQ qs (ds.drop (k + 1)).reverse j := by
      intro j
      induction j with
      | zero => intro _; rfl
      | succ j ih =>
        intro hj
        show fromP _ _ (toQ qs ds.reverse j) _ = fromP _ _ (toQ qs (ds.drop (k + 1)).reverse j) _
        rw [ih (by omega), at_ j (by omega)]
    exact key r (Nat.le_refl _)
end U
namespace U
open PySem PySem.Spec PyProof.Rows L2

/-! ### the boxes of numbers that the laws draw from -/
def Bx (H : Hp) (b : Addr) (m : Int) : Prop := ∃ g s k : Int, H b = some (.lst [.int g, .int s, .int k]) ∧ 0 ≤ g ∧ 0 ≤ s ∧ s < 2147483648 ∧ 0 ≤ k ∧ k ≤ m
theorem Bx.mono {H : Hp} {b : Addr} {m n : Int} (h : Bx H b m) (e : m ≤ n) : Bx H b n := by
  obtain ⟨g, s, k, h1, h2, h3, h4, h5, h6⟩ := h
  exact ⟨g, s, k, h1, h2, h3, h4, h5, by omega⟩
theorem Bx.same {H H' : Hp} {b : Addr} {m : Int} (h : Bx H b m) (e : Same H H') : Bx H' b m := by
  obtain ⟨g, s, k, h1, h2⟩ := h
  exact ⟨g, s, k, e _ _ h1, h2⟩
theorem Bx.at_ {H : Hp} {b : Addr} {m : Int} (h : Bx H b m) : ∃ l, H b = some (.lst l) := by
  obtain ⟨g, s, k, h1, _⟩ := h
  exact ⟨_, h1⟩
theorem Off.lst {H H' : Hp} {b c : Addr} {o : HO} (h : Off b H H') (hc : H c = some o) (n : c ≠ b) : H' c = some o := h _ _ n hc
theorem Off.new {H H2 : Hp} {b D : Addr} {o : HO} (h : Off b H H2) (hD : H D = none) : Off b H (upd H2 D o) := fun c u n e => by rw [upd_ne (ne_of_none e hD)]; exact h c u n e
theorem Bx.upd {H : Hp} {b D : Addr} {m : Int} {o : HO} (h : Bx H b m) (n : D ≠ b) : Bx (upd H D o) b m := by
  obtain ⟨g, s, k, h1, h2⟩ := h
  exact ⟨g, s, k, by rw [upd_ne n.symm]; exact h1, h2⟩
def sp__law_take (_K : PySem.W.Frag) : Sp := sp2 fun x am H Q _ => ∃ b m k, x = .ref b ∧ am = .int k ∧ 0 < k ∧ k ≤ 1000000000 ∧ Bx H b m ∧ m ≤ 1000000000 ∧ ∀ d H', 0 ≤ d → d < k → Off b H H' → Bx H' b (m + 1) → Q (.int d) H'
def sp__law_cell (K : PySem.W.Frag) : Sp := sp2 fun x y H Q _ => ∃ (a : Addr) (ns : List Int) (i : Int), x = .ref a ∧ y = .int i ∧ SqL K H a (ns.map V.int) ∧ 0 ≤ i ∧ i < 1000000 ∧ ∀ c H', Same H H' → Q (.int c) H'
def sp__law_bag (_K : PySem.W.Frag) : Sp := sp1 fun x H Q _ => ∃ c, x = .int c ∧ ∀ b H', H b = none → Same H H' → Bx H' b 0 → Q (.ref b) H'
def t__law_take (K : PySem.W.Frag) (E : XK) : TS := (tSeq (tIfS (tTest (tOp uGt (tOp (uIx K) (tVar 0) (tC (.int 0))) (tC (.int 0)))) (tSeq (tAsg (tOp uMod (tCB rInt (tCons (tOp (uIx K) (tVar 0) (tC (.int 0))) tNil)) (tVar 1)) (gName 2)) (tSeq (tAsg (tOp uDiv (tOp (uIx K) (tVar 0) (tC (.int 0))) (tVar 1)) (gSub (tVar 0) (tC (.int 0)) rSetL)) (tRet (tVar 2)))) tNext) (tSeq (tAsg (tOp uAdd (tOp (uIx K) (tVar 0) (tC (.int 2))) (tC (.int 1))) (gSub (tVar 0) (tC (.int 2)) rSetL)) (tSeq (tAsg (tOp uMod (tOp uPow (tCB rInt (tCons (tOp uAdd (tOp uAdd (tOp (uIx K) (tVar 0) (tC (.int 1))) (tOp uMul (tC (.int 32453269)) (tOp (uIx K) (tVar 0) (tC (.int 2))))) (tC (.int 1579))) tNil)) (tC (.int 5))) (tC (.int 2147483647))) (gName 3)) (tSeq (tAsg (tOp uMod (tOp uPow (tCB rInt (tCons (tOp uAdd (tVar 3) (tOp uMul (tC (.int 104729)) (tOp (uIx K) (tVar 0) (tC (.int 2))))) tNil)) (tC (.int 3))) (tC (.int 2147483587))) (gName 3)) (tRet (tOp uMod (tCB rInt (tCons (tOp uDiv (tVar 3) (tC (.int 16))) tNil)) (tVar 1)))))))
def t__law_cell (K : PySem.W.Frag) (E : XK) : TS := (tSeq (tAsg (tOp uAdd (tOp uMul (tC (.int 32453269)) (tVar 1)) (tC (.int 1579))) (gName 2)) (tRet (tIf (tTest (tOp uLt (tVar 1) (tCB (uLen K) (tCons (tVar 0) tNil)))) (tOp (uIx K) (tVar 0) (tVar 1)) (tOp uAdd (tVar 2) (tIf (tTest (tOp uGt (tCB (uLen K) (tCons (tVar 0) tNil)) (tC (.int 0)))) (tOp uMod (tCB rInt (tCons (tOp (uIx K) (tVar 0) (tC (.int 0))) tNil)) (tC (.int 1000003))) (tC (.int 0)))))))
def t__law_bag (K : PySem.W.Frag) (E : XK) : TS := (tRet (tLst (tCons (tCB uMax2 (tCons (tC (.int 0)) (tCons (tOp uSub (tVar 0) (tOp uPow (tC (.int 10)) (tC (.int 18)))) tNil))) (tCons (tOp uMod (tCB rInt (tCons (tVar 0) tNil)) (tC (.int 2147483629))) (tCons (tC (.int 0)) tNil)))))
theorem Off.free {H H' : Hp} {b l : Addr} (h : Off b H H') (n : l ≠ b) (e : H' l = none) : H l = none := by
  cases q : H l with
  | none => rfl
  | some o =>
    rw [h l o n q] at e
    cases e
theorem abc_at {K : PySem.W.Frag} {d : Int} {H : Hp} {Q : VK} (h0 : 0 ≤ d) (h1 : d < 3) (q : Q (.str (pl d.toNat)) H) : uIx K (.str "abc") (.int d) H Q := by
  refine uIx_str (c := 97 + d.toNat) (by decide) ?_ q
  obtain rfl | rfl | rfl : d = 0 ∨ d = 1 ∨ d = 2 := by omega
  · decide
  · decide
  · decide
theorem tLc_rng1 {t : TA} {σ : L2.St} {g : TG} {tt : TT} {te : TE} {vs : List Nat} {Q : VK} {H : Hp} {n : Nat} (h : ∀ R : List V → Hp → Prop, R [.int n] H → t σ H R) (hn : n ≤ 1000000000) (hc : ∀ D, H D = none → LcB (Itr 0 n) g tt te vs σ H D (Q (.ref D))) : tLc (iRng1 t) g tt te vs σ H Q := by
  refine h _ ⟨_, rfl, by omega, by omega, ?_⟩
  rw [Int.toNat_natCast]
  exact hc
/-- prices as the laws draw them: none above a hundred and some, with 27 more figures -/
def lowP : Option Int → Bool
  | none => true
  | some i => decide (0 < i ∧ i < 10 ^ 32)
def RowsLo (rows : List (List (Option Int))) : Prop := ∀ r ∈ rows, r.all lowP = true
theorem low_ok {p : Option Int} (h : lowP p = true) : okP p = true := by
  cases p with
  | none => rfl
  | some i => exact decide_eq_true (of_decide_eq_true h).1
theorem lowL_ok {r : List (Option Int)} (h : r.all lowP = true) : r.all okP = true := List.all_eq_true.mpr fun p m => low_ok (List.all_eq_true.mp h p m)
/-- a list under way, L, of lists of prices -/
def PI (H : Hp) (L b : Addr) (as : List Addr) (rows : List (List (Option Int))) : Prop := H L = some (.lst (as.map V.ref)) ∧ L ≠ b ∧ as.length = rows.length ∧ (∀ r ∈ rows, r.length = 6 ∧ r.all lowP = true) ∧
  ∀ (j : Nat) (a : Addr) (r : List (Option Int)), as[j]? = some a → rows[j]? = some r → H a = some (.lst (r.map pV)) ∧ a ≠ L ∧ a ≠ b
theorem PI.off {H H' : Hp} {L b : Addr} {as : List Addr} {rows : List (List (Option Int))} (h : PI H L b as rows) (o : Off b H H') : PI H' L b as rows := by
  obtain ⟨h1, h2, h3, h4, h5⟩ := h
  refine ⟨o _ _ h2 h1, h2, h3, h4, fun j a r z1 z2 => ?_⟩
  obtain ⟨k1, k2, k3⟩ := h5 j a r z1 z2
  exact ⟨o _ _ k3 k1, k2, k3⟩
theorem PI.put {H : Hp} {L b l : Addr} {as : List Addr} {rows : List (List (Option Int))} {o : HO} (h : PI H L b as rows) (n1 : l ≠ L) (n2 : l ∉ as) : PI (upd H l o) L b as rows := by
  obtain ⟨h1, h2, h3, h4, h5⟩ := h
  refine ⟨by rw [upd_ne n1.symm]; exact h1, h2, h3, h4, fun j a r z1 z2 => ?_⟩
  obtain ⟨k1, k2, k3⟩ := h5 j a r z1 z2
  exact ⟨by rw [upd_ne (by rintro rfl; exact n2 (List.mem_of_getElem? z1))]; exact k1, k2, k3⟩
theorem PI.fresh {H : Hp} {L b l : Addr} {as : List Addr} {rows : List (List (Option Int))} (h : PI H L b as rows) (hl : H l = none) : l ≠ L ∧ l ∉ as := by
  obtain ⟨h1, h2, h3, h4, h5⟩ := h
  refine ⟨(by rintro rfl; rw [h1] at hl; cases hl), fun m => ?_⟩
  obtain ⟨j, lt, e⟩ := List.mem_iff_getElem.mp m
  obtain ⟨k1, _⟩ := h5 j l rows[j] (by rw [← e]; exact List.getElem?_eq_getElem lt) (List.getElem?_eq_getElem (by omega))
  rw [k1] at hl
  cases hl
theorem PI.push {H : Hp} {L b l : Addr} {as : List Addr} {rows : List (List (Option Int))} {r : List (Option Int)} (h : PI H L b as rows) (hl : H l = some (.lst (r.map pV))) (n1 : l ≠ L) (n2 : l ≠ b) (h6 : r.length = 6) (ho : r.all lowP = true) :
    PI (upd H L (.lst ((as.map V.ref) ++ [.ref l]))) L b (as ++ [l]) (rows ++ [r]) := by
  obtain ⟨h1, h2, h3, h4, h5⟩ := h
  refine ⟨by rw [upd_same]; simp, h2, by simp [h3], fun x m => ?_, fun j a x z1 z2 => ?_⟩
  · rcases List.mem_append.mp m with m | m
    · exact h4 x m
    · rw [List.mem_singleton.mp m]
      exact ⟨h6, ho⟩
  · by_cases e : j < as.length
    · rw [List.getElem?_append_left e] at z1
      rw [List.getElem?_append_left (by omega)] at z2
      obtain ⟨k1, k2, k3⟩ := h5 j a x z1 z2
      exact ⟨by rw [upd_ne k2]; exact k1, k2, k3⟩
    · have e2 : j = as.length := by
        have := (List.getElem?_eq_some_iff.mp z1).1
        simp at this
        omega
      subst e2
      rw [List.getElem?_append_right (Nat.le_refl _), Nat.sub_self] at z1
      rw [List.getElem?_append_right (by omega), h3, Nat.sub_self] at z2
      cases z1
      cases z2
      exact ⟨by rw [upd_ne n1]; exact hl, n1, n2⟩
theorem PI.rowV {K : PySem.W.Frag} {H : Hp} {L b : Addr} {as : List Addr} {rows : List (List (Option Int))} (h : PI H L b as rows) : RowV K H (.ref L) rows := by
  obtain ⟨h1, h2, h3, h4, h5⟩ := h
  refine ⟨L, _, rfl, .inl (.inl (.inl h1)), by simp [h3], fun i v r z1 z2 => ?_⟩
  rw [List.getElem?_map] at z1
  obtain ⟨a, z3, rfl⟩ := Option.map_eq_some_iff.mp z1
  exact ⟨a, rfl, .inl (.inl (.inl (h5 i a r z3 z2).1))⟩
theorem Bx.ne {H : Hp} {b : Addr} {m : Int} {l : Addr} (h : Bx H b m) (hl : H l = none) : l ≠ b := by
  obtain ⟨l0, hb0⟩ := h.at_
  rintro rfl
  rw [hl] at hb0
  cases hb0
/-- how many cells a law looks at -/
theorem most_of (n : Nat) (lim : Int) (hl : lim ≤ 100) : ∃ N : Nat, N ≤ 100 ∧ (if (if (n : Int) < lim then (n : Int) else lim) > 2 then (if (n : Int) < lim then (n : Int) else lim) else 2) = (N : Int) := by
  refine ⟨(if (if (n : Int) < lim then (n : Int) else lim) > 2 then (if (n : Int) < lim then (n : Int) else lim) else 2).toNat, ?_, ?_⟩
  · split <;> split <;> omega
  · split <;> split <;> omega
def sp_law0 (K : PySem.W.Frag) : Sp := sp1 fun x H Q _ => ∃ (a : Addr) (ns : List Int), x = .ref a ∧ SqL K H a (ns.map V.int) ∧ ∀ H', Q (.bl true) H'
section
variable {K : PySem.W.Frag} (F : KF K) {vs : List V} {H : Hp} {Q : VK} {E : XK}
local macro_rules | `(tactic| walk_at "w") => `(tactic| try simp only [turnE, lcT, Snoc, tRet, tRetN, tAndV, tOrV, tNotV, tCB, tCons, tVar, tNil, tC, tOp, tSeq, tAsg, gName, gSub, tIfS, tDrop, tFn, tTup, tLst, tNext, tB, tTest, tNot, tAnd, tOr, tIf, tChain, tUn, rU, tFld, tPart, tNoPart, L2.tSl, tBM, tPar, tPar3, tTruth, tDNewK,
  L2.start, List.map_cons, List.map_nil, List.length_cons, List.length_nil, List.replicate_succ, List.replicate_zero, List.append_nil, List.nil_append, List.cons_append, List.singleton_append, Nat.sub_self, Nat.zero_add, Nat.reduceAdd, Nat.reduceSub,
  List.getElem?_cons_zero, List.getElem?_cons_succ, List.set_cons_zero, List.set_cons_succ, Option.some.injEq, exists_eq_left, exists_eq_left', V.int.injEq, V.bl.injEq, V.str.injEq, V.ref.injEq,
  uAdd_int, uAdd_str, uSub_int, uMul_int, uMul_str, uDiv_int, uMod_int, uPow_int, uLt_int, uLe_int, uGt_int, uGe_int, uIs_non, uNis_non, uIs_bl, uNis_bl, sp1, sp2, sp3, sp4, uEq_int, uEq_str, uNe_int, uNe_str, uSl_str, uLen_str, decide_eq_true_eq])
local macro_rules | `(tactic| walk_at "1") => `(tactic| try simp only [turnE, lcT, Snoc, tRet, tRetN, tAndV, tOrV, tNotV, tCB, tCons, tVar, tNil, tC, tOp, tAsg, gName, gSub, tIfS, tDrop, tFn, tTup, tLst, tNext, tB, tTest, tNot, tAnd, tOr, tIf, tChain, tUn, rU, tFld, tPart, tNoPart, L2.tSl, tBM, tPar, tPar3, tTruth, tDNewK,
  L2.start, List.map_cons, List.map_nil, List.length_cons, List.length_nil, List.replicate_succ, List.replicate_zero, List.append_nil, List.nil_append, List.cons_append, List.singleton_append, Nat.sub_self, Nat.zero_add, Nat.reduceAdd, Nat.reduceSub,
  List.getElem?_cons_zero, List.getElem?_cons_succ, List.set_cons_zero, List.set_cons_succ, Option.some.injEq, exists_eq_left, exists_eq_left', V.int.injEq, V.bl.injEq, V.str.injEq, V.ref.injEq,
  uAdd_int, uAdd_str, uSub_int, uMul_int, uMul_str, uDiv_int, uMod_int, uPow_int, uLt_int, uLe_int, uGt_int, uGe_int, uIs_non, uNis_non, uIs_bl, uNis_bl, sp1, sp2, sp3, sp4, uEq_int, uEq_str, uNe_int, uNe_str, uSl_str, uLen_str, decide_eq_true_eq])
local macro_rules | `(tactic| walk_at "s") => `(tactic| ((try dsimp only [turnE]); with_reducible refine seq_ ?_))

theorem uIx_lst {p : Addr} {xs : List V} {i : Int} {v : V} (h : H p = some (.lst xs)) (hi : atI xs i = some v) (q : Q v H) : uIx K (.ref p) (.int i) H Q := ⟨xs, v, .inl (.inl (.inl h)), hi, q⟩
theorem rInt_int {i : Int} (q : Q (.int i) H) : rInt [.int i] H Q := .inl ⟨i, rfl, q⟩
theorem rSetL_of {p : Addr} {xs : List V} {k : Int} {j : Nat} {v : V} {Q : Hp → Prop} (h : H p = some (.lst xs)) (hj : ixN xs.length k = some j) (q : Q (upd H p (.lst (xs.set j v)))) : rSetL (.ref p) (.int k) v H Q := ⟨p, xs, k, j, rfl, rfl, h, hj, q⟩
theorem cdivw_of {i j : Int} (h : 0 < j) (h2 : j ≤ 1000000000) : CDivW i j := by
  refine ⟨h, ?_⟩
  have : j.natAbs ≠ 0 := by omega
  have h3 : j.natAbs.log2 < 30 := (Nat.log2_lt this).mpr (by omega)
  omega
theorem tyL {l : Addr} {xs : List V} (h : H l = some (.lst xs)) : tyV K "list" (.ref l) H := Or.inl ⟨rfl, xs, .inl (.inl h)⟩
theorem app_of {l : Addr} {xs : List V} {y : V} (h : H l = some (.lst xs)) (hx : xs.length ≤ 100000) (q : Q .non (upd H l (.lst (xs ++ [y])))) : rAppend (.ref l) [y] H Q := ⟨l, xs, y, rfl, rfl, h, Nat.lt_of_lt_of_le (show xs.length < 100001 by omega) (by decide), q⟩
theorem take_of {b : Addr} {m k : Int} (hb : Bx H b m) (hm : m ≤ 1000000000) (h0 : 0 < k) (h1 : k ≤ 1000000000) (q : ∀ d H', 0 ≤ d → d < k → Off b H H' → Bx H' b (m + 1) → Q (.int d) H') : sp__law_take K [.ref b, .int k] H Q E :=
  ⟨b, m, k, rfl, rfl, h0, h1, hb, hm, q⟩
include F in
theorem read__law_cell (h : sp__law_cell K vs H Q E) : t__law_cell K E { nx := fun _ H' => Q .non H', rt := Q } (start ["_law_script", "_law_k", "_law_spare"] vs) H := by
  match vs, h with
  | [_, _], ⟨a, ns, i, rfl, rfl, ha, h0, h1, q⟩ =>
    unfold t__law_cell
    walk_at "s"
    walk_at "1"
    refine ⟨.inl (by omega), ?_⟩
    refine uLen_seq (.inl ha) ?_
    refine ⟨_, rfl, ?_⟩
    by_cases hi : i < ((ns.map V.int).length : Int)
    · rw [if_pos (decide_eq_true hi)]
      have hl : i.toNat < ns.length := by simp at hi; omega
      refine ⟨_, .int ns[i.toNat], .inl ha, ?_, q _ _ (Same.refl H)⟩
      unfold atI ixN
      rw [if_pos h0, if_pos hi]
      show (ns.map V.int)[i.toNat]? = _
      rw [List.getElem?_map, List.getElem?_eq_getElem hl]
      rfl
    · rw [if_neg (by simpa using hi)]
      walk_at "1"
      refine uLen_seq (.inl ha) ?_
      refine ⟨_, rfl, ?_⟩
      by_cases hz : (0 : Int) < ((ns.map V.int).length : Int)
      · rw [if_pos (decide_eq_true hz)]
        have hl : 0 < ns.length := by simp at hz; omega
        refine ⟨_, .int ns[0], .inl ha, ?_, ?_⟩
        · unfold atI ixN
          rw [if_pos (by decide), if_pos hz]
          show (ns.map V.int)[0]? = _
          rw [List.getElem?_map, List.getElem?_eq_getElem hl]
          rfl
        · refine rInt_int ?_
          walk_at "1"
          exact ⟨by omega, q _ _ (Same.refl H)⟩
      · rw [if_neg (by simpa using hz)]
        walk_at "1"
        exact q _ _ (Same.refl H)
include F in
theorem read__law_bag (h : sp__law_bag K vs H Q E) : t__law_bag K E { nx := fun _ H' => Q .non H', rt := Q } (start ["_law_cell_here"] vs) H := by
  match vs, h with
  | [_], ⟨c, rfl, q⟩ =>
    unfold t__law_bag
    walk_at "1"
    refine ⟨⟨by omega, by omega, by omega⟩, 0, c - 10 ^ Int.toNat 18, rfl, rInt_int ?_⟩
    walk_at "1"
    refine ⟨by omega, by decide, fun b hb => q b _ hb (same_new hb) ⟨_, _, 0, upd_same, ?_, Int.emod_nonneg _ (by omega), ?_, by omega, by omega⟩⟩
    · split <;> omega
    · have := Int.emod_lt_of_pos c (show (0 : Int) < 2147483629 by omega)
      omega
include F in
theorem read__law_take (h : sp__law_take K vs H Q E) : t__law_take K E { nx := fun _ H' => Q .non H', rt := Q } (start ["_law_bag_here", "_law_limit", "_law_digit", "_law_mixed"] vs) H := by
  match vs, h with
  | [_, _], ⟨b, m, k, rfl, rfl, hk, hk2, ⟨g, s, n, hb, h1, h2, h3, h4, h5⟩, hm, q⟩ =>
    unfold t__law_take
    walk_at "w"
    refine uIx_lst hb rfl ?_
    walk_at "w"
    by_cases hg : 0 < g
    · simp only [hg, if_true]
      refine uIx_lst hb rfl (rInt_int ⟨hk, ?_⟩)
      refine uIx_lst hb rfl ?_
      walk_at "w"
      refine ⟨cdivw_of hk hk2, rSetL_of (j := 0) hb rfl ?_⟩
      walk_at "w"
      refine q _ _ (Int.emod_nonneg _ (by omega)) (Int.emod_lt_of_pos _ hk) off_upd ⟨_, _, _, upd_same, Int.ediv_nonneg h1 (by omega), h2, h3, h4, by omega⟩
    · simp only [hg, if_false]
      refine uIx_lst hb rfl ?_
      walk_at "w"
      refine rSetL_of (j := 2) hb rfl ?_
      have ha : upd H b (.lst ([.int g, .int s, .int n].set 2 (.int (n + 1)))) b = some (.lst [.int g, .int s, .int (n + 1)]) := upd_same
      have ho : Off b H (upd H b (.lst ([.int g, .int s, .int n].set 2 (.int (n + 1))))) := off_upd
      generalize upd H b (.lst ([.int g, .int s, .int n].set 2 (.int (n + 1)))) = H1 at *
      refine uIx_lst ha rfl ?_
      walk_at "w"
      refine uIx_lst ha rfl ?_
      walk_at "w"
      refine ⟨.inl (by omega), ?_⟩
      refine rInt_int ?_
      walk_at "w"
      refine ⟨⟨by omega, by omega, by omega⟩, by omega, ?_⟩
      generalize hx : (s + 32453269 * (n + 1) + 1579) ^ (Int.toNat 5) % 2147483647 = x
      have hx1 : 0 ≤ x ∧ x < 2147483647 := by
        rw [← hx]
        exact ⟨Int.emod_nonneg _ (by omega), Int.emod_lt_of_pos _ (by omega)⟩
      refine uIx_lst ha rfl ?_
      walk_at "w"
      refine ⟨.inl (by omega), ?_⟩
      refine rInt_int ?_
      walk_at "w"
      refine ⟨⟨by omega, by omega, by omega⟩, by omega, ?_⟩
      generalize hy : (x + 104729 * (n + 1)) ^ (Int.toNat 3) % 2147483587 = y
      refine ⟨cdivw_of (by omega) (by omega), ?_⟩
      refine rInt_int ⟨hk, ?_⟩
      exact q _ _ (Int.emod_nonneg _ (by omega)) (Int.emod_lt_of_pos _ hk) ho ⟨_, _, _, ha, h1, h2, h3, by omega, by omega⟩
end
end U
namespace U
open PySem PySem.Spec PyProof.Rows L2

def sp__law_rows (K : PySem.W.Frag) : Sp := sp2 fun x y H Q _ => ∃ (b : Addr) (m : Int) (n : Nat), x = .ref b ∧ y = .int n ∧ 1 ≤ n ∧ n ≤ 60 ∧ Bx H b m ∧ m ≤ 1000000 ∧
  ∀ rows v H', rows.length ≤ n → RowsOk rows → RowV K H' v rows → Off b H H' → Bx H' b (m + 2000) → RowsLo rows → (∃ L as, v = .ref L ∧ PI H' L b as rows) → Q v H'
def t__law_rows (K : PySem.W.Frag) (E : XK) : TS := (tSeq (tPar 2 3 (tCons (tFn (sp__law_take K) E (tCons (tVar 0) (tCons (tC (.int 5)) tNil))) (tCons (tOp (uIx K) (tLst (tCons (tC (.int 0)) (tCons (tC (.int 0)) (tCons (tC (.int 9)) (tCons (tC (.int 4)) tNil))))) (tFn (sp__law_take K) E (tCons (tVar 0) (tCons (tC (.int 4)) tNil)))) tNil))) (tSeq (tAsg (tLst tNil) (gName 4)) (tSeq (tFor (iRng1 (tCons (tOp uAdd (tC (.int 1)) (tFn (sp__law_take K) E (tCons (tVar 0) (tCons (tVar 1) tNil)))) tNil)) (gName 5) (tSeq (tAsg (tLst tNil) (gName 6)) (tSeq (tFor (iRng1 (tCons (tC (.int 6)) tNil)) (gName 7) (tSeq (tAsg (tOp (uIx K) (tLst (tCons (tC (.int 1)) (tCons (tOp uAdd (tC (.int 1)) (tFn (sp__law_take K) E (tCons (tVar 0) (tCons (tC (.int 3)) tNil)))) (tCons (tOp uAdd (tC (.int 1)) (tFn (sp__law_take K) E (tCons (tVar 0) (tCons (tC (.int 9)) tNil)))) (tCons (tOp uAdd (tC (.int 1)) (tFn (sp__law_take K) E (tCons (tVar 0) (tCons (tOp uPow (tC (.int 10)) (tC (.int 6))) tNil)))) (tCons (tOp uSub (tOp uPow (tC (.int 10)) (tC (.int 29))) (tFn (sp__law_take K) E (tCons (tVar 0) (tCons (tC (.int 3)) tNil)))) tNil)))))) (tVar 2)) (gName 8)) (tDrop (tBM K "list" rAppend (tVar 6) (tCons (tIf (tAnd (tTest (tOp uGt (tVar 3) (tC (.int 0)))) (tTest (tOp (uEq K) (tFn (sp__law_take K) E (tCons (tVar 0) (tCons (tVar 3) tNil))) (tC (.int 0))))) (tC .non) (tVar 8)) tNil))))) (tDrop (tBM K "list" rAppend (tVar 4) (tCons (tVar 6) tNil)))))) (tRet (tVar 4)))))
section
variable {K : PySem.W.Frag} (F : KF K) {vs : List V} {H : Hp} {Q : VK} {E : XK}
local macro_rules | `(tactic| walk_at "w") => `(tactic| try simp only [turnE, lcT, Snoc, tRet, tRetN, tAndV, tOrV, tNotV, tCB, tCons, tVar, tNil, tC, tOp, tSeq, tAsg, gName, gSub, tIfS, tDrop, tFn, tTup, tLst, tNext, tB, tTest, tNot, tAnd, tOr, tIf, tChain, tUn, rU, tFld, tPart, tNoPart, L2.tSl, tBM, tPar, tPar3, tTruth, tDNewK,
  L2.start, List.map_cons, List.map_nil, List.length_cons, List.length_nil, List.replicate_succ, List.replicate_zero, List.append_nil, List.nil_append, List.cons_append, List.singleton_append, Nat.sub_self, Nat.zero_add, Nat.reduceAdd, Nat.reduceSub,
  List.getElem?_cons_zero, List.getElem?_cons_succ, List.set_cons_zero, List.set_cons_succ, Option.some.injEq, exists_eq_left, exists_eq_left', V.int.injEq, V.bl.injEq, V.str.injEq, V.ref.injEq,
  uAdd_int, uAdd_str, uSub_int, uMul_int, uMul_str, uDiv_int, uMod_int, uPow_int, uLt_int, uLe_int, uGt_int, uGe_int, uIs_non, uNis_non, uIs_bl, uNis_bl, sp1, sp2, sp3, sp4, uEq_int, uEq_str, uNe_int, uNe_str, uSl_str, uLen_str, decide_eq_true_eq])
local macro_rules | `(tactic| walk_at "1") => `(tactic| try simp only [turnE, lcT, Snoc, tRet, tRetN, tAndV, tOrV, tNotV, tCB, tCons, tVar, tNil, tC, tOp, tAsg, gName, gSub, tIfS, tDrop, tFn, tTup, tLst, tNext, tB, tTest, tNot, tAnd, tOr, tIf, tChain, tUn, rU, tFld, tPart, tNoPart, L2.tSl, tBM, tPar, tPar3, tTruth, tDNewK,
  L2.start, List.map_cons, List.map_nil, List.length_cons, List.length_nil, List.replicate_succ, List.replicate_zero, List.append_nil, List.nil_append, List.cons_append, List.singleton_append, Nat.sub_self, Nat.zero_add, Nat.reduceAdd, Nat.reduceSub,
  List.getElem?_cons_zero, List.getElem?_cons_succ, List.set_cons_zero, List.set_cons_succ, Option.some.injEq, exists_eq_left, exists_eq_left', V.int.injEq, V.bl.injEq, V.str.injEq, V.ref.injEq,
  uAdd_int, uAdd_str, uSub_int, uMul_int, uMul_str, uDiv_int, uMod_int, uPow_int, uLt_int, uLe_int, uGt_int, uGe_int, uIs_non, uNis_non, uIs_bl, uNis_bl, sp1, sp2, sp3, sp4, uEq_int, uEq_str, uNe_int, uNe_str, uSl_str, uLen_str, decide_eq_true_eq])
local macro_rules | `(tactic| walk_at "s") => `(tactic| ((try dsimp only [turnE]); with_reducible refine seq_ ?_))

theorem tFor_rng {t : TA} {g : TG} {tb : TS} {D : Ends} {σ : L2.St} {H : Hp} (h : t σ H fun vs H1 => ∃ j : Int, vs = [.int j] ∧ -(2 ^ 62) ≤ j ∧ j < 2 ^ 62 ∧ tFor (fun _ H' R => R (Itr 0 j.toNat) H') g tb D σ H1) : tFor (iRng1 t) g tb D σ H := h
theorem laps_of {J : It} {xs : List V} {G : Hp → Prop} (P : Plain J xs G) {g : TG} {tb : TS} {D : Ends} {σ : L2.St} {H : Hp} (Pv : Nat → L2.St → Hp → Prop) (h0 : Pv 0 σ H) (hG : ∀ i τ H', Pv i τ H' → G H')
    (hs : ∀ i x τ H, xs[i]? = some x → Pv i τ H → g x τ H fun ρ H2 => tb (turnE D (Pv (i + 1))) ρ H2) (hd : ∀ τ H, Pv xs.length τ H → D.nx τ H) : tFor (fun _ H' R => R J H') g tb D σ H :=
  for_plain P (wi := fun _ H' R => R J H') (fun R r => r) Pv h0 hG hs hd
theorem bars_at {e : Int} (h0 : 0 ≤ e) (h1 : e < 4) : ∃ p : Int, atI [V.int 0, .int 0, .int 9, .int 4] e = some (.int p) ∧ 0 ≤ p ∧ p ≤ 9 := by
  obtain rfl | rfl | rfl | rfl : e = 0 ∨ e = 1 ∨ e = 2 ∨ e = 3 := by omega
  all_goals exact ⟨_, rfl, by omega, by omega⟩
theorem kind_at {a b c d k : Int} (ha : 0 ≤ a) (ha2 : a < 3) (hb : 0 ≤ b) (hb2 : b < 9) (hc : 0 ≤ c) (hc2 : c < 1000000) (hd : 0 ≤ d) (hd2 : d < 3) (h0 : 0 ≤ k) (h1 : k < 5) :
    ∃ p : Int, atI [V.int 1, .int (1 + a), .int (1 + b), .int (1 + c), .int (10 ^ Int.toNat 29 - d)] k = some (.int p) ∧ 0 < p ∧ p < 10 ^ 32 := by
  have t : (10 : Int) ^ Int.toNat 29 = 100000000000000000000000000000 := by decide
  have t2 : (10 : Int) ^ 32 = 100000000000000000000000000000000 := by decide
  rw [t, t2]
  obtain rfl | rfl | rfl | rfl | rfl : k = 0 ∨ k = 1 ∨ k = 2 ∨ k = 3 ∨ k = 4 := by omega
  all_goals exact ⟨_, rfl, by omega, by omega⟩
theorem rows_s0 {b : Addr} {x1 x3 x4 x5 x6 x7 x8 : Option V} {M : Int} {kd : Int} {D : Ends} {H : Hp} (hb : Bx H b M) (hM : M ≤ 100000000) (h0 : 0 ≤ kd) (h1 : kd < 5)
    (q : ∀ p H', 0 < p ∧ p < 10 ^ 32 → Off b H H' → Bx H' b (M + 4) → D.nx [some (.ref b), x1, some (.int kd), x3, x4, x5, x6, x7, some (.int p)] H') :
    (tAsg (tOp (uIx K) (tLst (tCons (tC (.int 1)) (tCons (tOp uAdd (tC (.int 1)) (tFn (sp__law_take K) E (tCons (tVar 0) (tCons (tC (.int 3)) tNil)))) (tCons (tOp uAdd (tC (.int 1)) (tFn (sp__law_take K) E (tCons (tVar 0) (tCons (tC (.int 9)) tNil)))) (tCons (tOp uAdd (tC (.int 1)) (tFn (sp__law_take K) E (tCons (tVar 0) (tCons (tOp uPow (tC (.int 10)) (tC (.int 6))) tNil)))) (tCons (tOp uSub (tOp uPow (tC (.int 10)) (tC (.int 29))) (tFn (sp__law_take K) E (tCons (tVar 0) (tCons (tC (.int 3)) tNil)))) tNil)))))) (tVar 2)) (gName 8)) D [some (.ref b), x1, some (.int kd), x3, x4, x5, x6, x7, x8] H := by
  walk_at "1"
  refine take_of hb (by omega) (by omega) (by omega) fun a H1 a0 a1 o1 b1 => ?_
  walk_at "1"
  refine take_of b1 (by omega) (by omega) (by omega) fun c H2 c0 c1 o2 b2 => ?_
  walk_at "1"
  refine ⟨⟨by omega, by omega, by omega⟩, take_of b2 (by omega) (by decide) (by decide) fun d H3 d0 d1 o3 b3 => ?_⟩
  walk_at "1"
  refine ⟨⟨by omega, by omega, by omega⟩, take_of b3 (by omega) (by omega) (by omega) fun e H4 e0 e1 o4 b4 => ?_⟩
  walk_at "1"
  refine ⟨by decide, fun A hA => ?_⟩
  have d1' : d < 1000000 := by
    have t : (10 : Int) ^ Int.toNat 6 = 1000000 := by decide
    rw [t] at d1
    exact d1
  obtain ⟨p, hp, p0⟩ := kind_at a0 a1 c0 c1 d0 d1' e0 e1 h0 h1
  refine uIx_lst upd_same hp ?_
  exact q p _ p0 (((o1.trans o2).trans (o3.trans o4)).trans (Same.off (same_new hA))) (Bx.upd (b4.mono (by omega)) (b4.ne hA))
theorem rows_s1 {b l : Addr} {x1 x2 x4 x5 x7 : Option V} {M bars p : Int} {xs : List V} {D : Ends} {H : Hp} (hb : Bx H b M) (hM : M ≤ 100000000) (h0 : 0 ≤ bars) (h1 : bars ≤ 9) (hl : H l = some (.lst xs)) (hx : xs.length ≤ 100000) (hlb : l ≠ b)
    (q : ∀ v H', v = .non ∨ v = .int p → Off b H H' → Bx H' b (M + 1) → D.nx [some (.ref b), x1, x2, some (.int bars), x4, x5, some (.ref l), x7, some (.int p)] (upd H' l (.lst (xs ++ [v])))) :
    (tDrop (tBM K "list" rAppend (tVar 6) (tCons (tIf (tAnd (tTest (tOp uGt (tVar 3) (tC (.int 0)))) (tTest (tOp (uEq K) (tFn (sp__law_take K) E (tCons (tVar 0) (tCons (tVar 3) tNil))) (tC (.int 0))))) (tC .non) (tVar 8)) tNil))) D [some (.ref b), x1, x2, some (.int bars), x4, x5, some (.ref l), x7, some (.int p)] H := by
  walk_at "1"
  refine ⟨tyL hl, ?_⟩
  by_cases z : 0 < bars
  · rw [if_pos z]
    refine take_of hb (by omega) z (by omega) fun d H1 d0 d1 o1 b1 => ?_
    walk_at "1"
    have hl1 := o1.lst hl hlb
    by_cases e : d = 0
    · rw [if_pos e]
      exact app_of hl1 hx (q _ _ (.inl rfl) o1 b1)
    · rw [if_neg e]
      exact app_of hl1 hx (q _ _ (.inr rfl) o1 b1)
  · rw [if_neg z]
    rw [if_neg (by decide)]
    exact app_of hl hx (q _ _ (.inr rfl) Off.refl (hb.mono (by omega)))
include F in
theorem read__law_rows (h : sp__law_rows K vs H Q E) : t__law_rows K E { nx := fun _ H' => Q .non H', rt := Q } (start ["_law_bag_here", "_law_most", "_law_kind", "_law_bars", "_law_found", "_law_crate", "_law_line", "_law_way", "_law_price_here"] vs) H := by
  match vs, h with
  | [_, _], ⟨b, m, n, rfl, rfl, hn1, hn, hb, hm, q⟩ =>
    unfold t__law_rows
    walk_at "s"
    simp only [tPar]
    walk_at "1"
    refine take_of hb (by omega) (by omega) (by omega) fun kd H1 k0 k1 o1 b1 => ?_
    walk_at "1"
    refine ⟨by decide, fun A hA => ?_⟩
    have hAb := b1.ne hA
    refine take_of (b1.upd hAb) (by omega) (by omega) (by omega) fun e H2 e0 e1 o2 b2 => ?_
    obtain ⟨bars, hbars, r0, r1⟩ := bars_at e0 e1
    refine uIx_lst (o2.lst upd_same hAb) hbars ?_
    have o2 : Off b H1 H2 := Off.trans (Same.off (same_new hA)) o2
    refine ⟨_, _, rfl, ?_⟩
    walk_at "s"
    walk_at "1"
    refine ⟨by decide, fun L hL => ?_⟩
    have hLb := b2.ne hL
    have o12 := o1.trans o2
    have hL0 : H L = none := Off.free o12 hLb hL
    have oL : Off b H (upd H2 L (.lst [])) := Off.new o12 hL0
    have gL : upd H2 L (.lst []) L = some (.lst []) := upd_same
    have bL := b2.upd (o := .lst []) hLb
    generalize upd H2 L (.lst []) = H3 at *
    walk_at "s"
    refine tFor_rng ?_
    walk_at "1"
    refine take_of bL (by omega) (by omega) (by omega) fun d H4 d0 d1 o4 b4 => ?_
    walk_at "1"
    obtain ⟨nn, en⟩ : ∃ nn : Nat, 1 + d = (nn : Int) := ⟨(1 + d).toNat, by omega⟩
    refine ⟨_, rfl, by omega, by omega, ?_⟩
    rw [en, Int.toNat_natCast]
    have hLx := o4.lst gL hLb
    have o4 : Off b H H4 := oL.trans o4
    refine laps_of (plain_R (lo := 0) (n := nn)) (fun i τ H' => ∃ as rows o5 o6 o7 o8, τ = [some (.ref b), some (.int n), some (.int kd), some (.int bars), some (.ref L), o5, o6, o7, o8] ∧ PI H' L b as rows ∧ rows.length = i ∧ Bx H' b (m + 3 + 30 * i) ∧ Off b H H')
      ⟨[], [], none, none, none, none, rfl, ⟨hLx, hLb, rfl, (fun r m => nomatch m), fun j a r z => nomatch z⟩, rfl, b4.mono (by omega), o4⟩ (fun _ _ _ _ => trivial) ?_ ?_
    · rintro i x τ H5 hx ⟨as, rows, o5, o6, o7, o8, rfl, hp, hr, hb5, ho5⟩
      have hi : i < nn := by have := (List.getElem?_eq_some_iff.mp hx).1; simpa [intsL] using this
      simp only [gName, List.set_cons_zero, List.set_cons_succ]
      walk_at "s"
      walk_at "1"
      refine ⟨by decide, fun l hl => ?_⟩
      obtain ⟨hlL, hla⟩ := hp.fresh hl
      have hlb := hb5.ne hl
      walk_at "s"
      refine for_rng1 (n := 6) (fun R r => by
        walk_at "1"
        exact r) (by omega) (fun j σ H' => ∃ r o7 o8, σ = [some (.ref b), some (.int n), some (.int kd), some (.int bars), some (.ref L), some x, some (.ref l), o7, o8] ∧ H' l = some (.lst (r.map pV)) ∧ r.length = j ∧ r.all lowP = true ∧ PI H' L b as rows ∧ Bx H' b (m + 3 + 30 * i + 5 * j) ∧ Off b H H')
        ⟨[], o7, o8, rfl, upd_same, rfl, rfl, hp.put hlL hla, (hb5.upd hlb).mono (by omega), ho5.trans (Same.off (same_new hl))⟩ ?_ ?_
      · rintro j σ H6 hj ⟨r, p7, p8, rfl, g1, g2, g3, g4, g5, g6⟩
        simp only [gName, List.set_cons_zero, List.set_cons_succ]
        walk_at "s"
        refine rows_s0 g5 (by omega) k0 k1 fun p H7 p0 o7 b7 => ?_
        refine rows_s1 b7 (by omega) r0 r1 (o7.lst g1 hlb) (by rw [List.length_map, g2]; omega) hlb fun v H8 hv o8 b8 => ?_
        have o68 := o7.trans o8
        have hv2 : ∃ w, v = pV w ∧ lowP w = true := by
          rcases hv with rfl | rfl
          · exact ⟨none, rfl, rfl⟩
          · exact ⟨some p, rfl, decide_eq_true p0⟩
        obtain ⟨w, rfl, hw⟩ := hv2
        refine ⟨r ++ [w], _, _, rfl, by rw [upd_same]; simp, by simp [g2], by simp [g3, hw], (g4.off o68).put hlL hla, Bx.upd (b8.mono (by omega)) hlb, Off.new (g6.trans o68) ?_⟩
        exact Off.free ho5 hlb hl
      · rintro σ H6 ⟨r, p7, p8, rfl, g1, g2, g3, g4, g5, g6⟩
        walk_at "1"
        refine ⟨tyL g4.1, app_of g4.1 (by rw [List.length_map, g4.2.2.1]; omega) ?_⟩
        exact ⟨as ++ [l], rows ++ [r], _, _, _, _, rfl, g4.push g1 hlL hlb g2 g3, by simp [hr], Bx.upd (g5.mono (by omega)) hLb, Off.new g6 hL0⟩
    · rintro τ H5 ⟨as, rows, o5, o6, o7, o8, rfl, hp, hr, hb5, ho5⟩
      have e : (intsL 0 nn).length = nn := by simp [intsL]
      rw [e] at hr hb5
      walk_at "1"
      exact q rows _ _ (by omega) ⟨by omega, by omega, fun r m => ⟨(hp.2.2.2.1 r m).1, lowL_ok (hp.2.2.2.1 r m).2⟩⟩ hp.rowV ho5 (hb5.mono (by omega)) (fun r m => (hp.2.2.2.1 r m).2) ⟨L, as, rfl, hp⟩
end
end U
namespace U
open PySem PySem.Spec PyProof.Rows L2

/-! ### loops over pairs of a number and an item: a new tuple a turn -/
structure Pairs (J : It) (xs : List V) (G : Hp → Prop) : Prop where
  go : ∀ i H, G H → i < xs.length → J.go i H
  yld : ∀ i H v H', G H → J.yld i H v H' → i < xs.length → ∃ T x, v = .ref T ∧ (H T = none ∧ (H' = upd H T (.tup [.int (i : Nat), x]) ∧ xs[i]? = some x))
  stop : ∀ i H, G H → i = xs.length → J.stop i H
theorem pairs_L {K : PySem.W.Frag} {a : Addr} {xs : List V} : Pairs (Ite K a) xs fun H => SqL K H a xs where
  go := fun i H h lt => ⟨xs, xs[i], h, List.getElem?_eq_getElem lt⟩
  yld := fun i H v H' h ⟨T, x, e1, e2, e3, e4⟩ lt => ⟨T, x, e1, e2, e3, e4 xs h⟩
  stop := fun i H h e => ⟨xs, h, Nat.le_of_eq e.symm⟩
theorem for_pairs {J : It} {xs : List V} {G : Hp → Prop} (P : Pairs J xs G) {wi : TI} {g : TG} {tb : TS} {D : Ends} {σ : L2.St} {H : Hp} (hw : ∀ R : It → Hp → Prop, R J H → wi σ H R) (Pv : Nat → L2.St → Hp → Prop) (h0 : Pv 0 σ H) (hG : ∀ i τ H', Pv i τ H' → G H')
    (hs : ∀ i x τ H' T, xs[i]? = some x → Pv i τ H' → H' T = none → g (.ref T) τ (upd H' T (.tup [.int (i : Nat), x])) fun ρ H2 => tb (turnE D (Pv (i + 1))) ρ H2) (hd : ∀ τ H', Pv xs.length τ H' → D.nx τ H') : tFor wi g tb D σ H := by
  refine hw _ ?_
  refine ⟨fun i m τ H' => m = xs.length - i ∧ (i ≤ xs.length ∧ Pv i τ H'), ⟨_, rfl, Nat.zero_le _, h0⟩, ?_⟩
  rintro i m τ H' ⟨rfl, hi, p⟩
  have q := hG i τ H' p
  by_cases lt : i < xs.length
  · refine .inr ⟨P.go i H' q lt, Pv (i + 1), fun σ' H2 p' => ⟨xs.length - (i + 1), by omega, rfl, lt, p'⟩, fun v H2 y => ?_⟩
    obtain ⟨T, x, rfl, nT, rfl, hx⟩ := P.yld i H' v H2 q y lt
    exact hs i x τ H' T hx p nT
  · have e : i = xs.length := Nat.le_antisymm hi (Nat.le_of_not_lt lt)
    exact .inl ⟨P.stop i H' q e, hd τ H' (e ▸ p)⟩
/-! ### a list under way whose items are new lists -/
section
variable {H0 H H' : Hp} {z l : Addr} {f : Nat → List V} {i : Nat}
end
section
variable {K : PySem.W.Frag} (F : KF K) {vs : List V} {H : Hp} {Q : VK} {E : XK}
local macro_rules | `(tactic| walk_at "w") => `(tactic| try simp only [turnE, lcT, Snoc, tRet, tRetN, tAndV, tOrV, tNotV, tCB, tCons, tVar, tNil, tC, tOp, tSeq, tAsg, gName, gSub, tIfS, tDrop, tFn, tTup, tLst, tNext, tB, tTest, tNot, tAnd, tOr, tIf, tChain, tUn, rU, tFld, tPart, tNoPart, L2.tSl, tBM, tPar, tPar3, tTruth, tDNewK,
  L2.start, List.map_cons, List.map_nil, List.length_cons, List.length_nil, List.replicate_succ, List.replicate_zero, List.append_nil, List.nil_append, List.cons_append, List.singleton_append, Nat.sub_self, Nat.zero_add, Nat.reduceAdd, Nat.reduceSub,
  List.getElem?_cons_zero, List.getElem?_cons_succ, List.set_cons_zero, List.set_cons_succ, Option.some.injEq, exists_eq_left, exists_eq_left', V.int.injEq, V.bl.injEq, V.str.injEq, V.ref.injEq,
  uAdd_int, uAdd_str, uSub_int, uMul_int, uMul_str, uDiv_int, uMod_int, uPow_int, uLt_int, uLe_int, uGt_int, uGe_int, uIs_non, uNis_non, uIs_bl, uNis_bl, sp1, sp2, sp3, sp4, uEq_int, uEq_str, uNe_int, uNe_str, uSl_str, uLen_str, decide_eq_true_eq])
local macro_rules | `(tactic| walk_at "1") => `(tactic| try simp only [turnE, lcT, Snoc, tRet, tRetN, tAndV, tOrV, tNotV, tCB, tCons, tVar, tNil, tC, tOp, tAsg, gName, gSub, tIfS, tDrop, tFn, tTup, tLst, tNext, tB, tTest, tNot, tAnd, tOr, tIf, tChain, tUn, rU, tFld, tPart, tNoPart, L2.tSl, tBM, tPar, tPar3, tTruth, tDNewK,
  L2.start, List.map_cons, List.map_nil, List.length_cons, List.length_nil, List.replicate_succ, List.replicate_zero, List.append_nil, List.nil_append, List.cons_append, List.singleton_append, Nat.sub_self, Nat.zero_add, Nat.reduceAdd, Nat.reduceSub,
  List.getElem?_cons_zero, List.getElem?_cons_succ, List.set_cons_zero, List.set_cons_succ, Option.some.injEq, exists_eq_left, exists_eq_left', V.int.injEq, V.bl.injEq, V.str.injEq, V.ref.injEq,
  uAdd_int, uAdd_str, uSub_int, uMul_int, uMul_str, uDiv_int, uMod_int, uPow_int, uLt_int, uLe_int, uGt_int, uGe_int, uIs_non, uNis_non, uIs_bl, uNis_bl, sp1, sp2, sp3, sp4, uEq_int, uEq_str, uNe_int, uNe_str, uSl_str, uLen_str, decide_eq_true_eq])
local macro_rules | `(tactic| walk_at "s") => `(tactic| ((try dsimp only [turnE]); with_reducible refine seq_ ?_))

theorem idx_way {a : Addr} {x y : Nat} (hx : x < 3) (hy : y < 3) (ne : x ≠ y) (hs : SqL K H a (waysN.map fun w => V.str (wd [w.1, w.2]))) (q : Q (.int (wayI x y : Nat)) H) : tyV K "list" (.ref a) H ∧ rIndex K (.ref a) [.str (wd [x, y])] H Q := by
  refine ⟨.inl ⟨rfl, _, hs⟩, a, _, _, wayI x y, .str (wd [x, y]), rfl, rfl, hs, rfl, by decide, ?_, ?_, ?_, q⟩
  all_goals
    have ex : x = 0 ∨ x = 1 ∨ x = 2 := by omega
    have ey : y = 0 ∨ y = 1 ∨ y = 2 := by omega
    rcases ex with rfl | rfl | rfl <;> rcases ey with rfl | rfl | rfl <;> first | exact absurd rfl ne | rfl | skip
  all_goals
    rintro m z' hm hz
    match m, hm, hz with
    | 0, hm, hz => first | exact absurd hm (by decide) | (cases hz; decide +kernel)
    | 1, hm, hz => first | exact absurd hm (by decide) | (cases hz; decide +kernel)
    | 2, hm, hz => first | exact absurd hm (by decide) | (cases hz; decide +kernel)
    | 3, hm, hz => first | exact absurd hm (by decide) | (cases hz; decide +kernel)
    | 4, hm, hz => first | exact absurd hm (by decide) | (cases hz; decide +kernel)
    | k + 5, hm, _ => exact absurd hm (by simp [wayI])
theorem for_seqA {t : TE} {g : TG} {tb : TS} {D : Ends} {σ : L2.St} {p : Addr} {xs : List V} {H0 : Hp} (h : SqA K H0 p xs) (ht : ∀ R : VK, R (.ref p) H → t σ H R) (Pv : Nat → L2.St → Hp → Prop) (h0 : Pv 0 σ H) (hG : ∀ i τ H', Pv i τ H' → Same H0 H')
    (hs : ∀ i x τ H', xs[i]? = some x → Pv i τ H' → g x τ H' fun ρ H2 => tb (turnE D (Pv (i + 1))) ρ H2) (hd : ∀ τ H', Pv xs.length τ H' → D.nx τ H') : tFor (iSeq K t) g tb D σ H := by
  rcases h with h | h
  · exact .inl (ht _ ⟨p, rfl, ⟨xs, Same.seq (hG 0 σ H h0) h⟩, for_plain (wi := fun _ H' R => R (Itl K p) H') plain_L (fun R r => r) Pv h0 (fun i τ H' q => Same.seq (hG i τ H' q) h) hs hd⟩)
  · exact .inr (ht _ ⟨p, rfl, ⟨xs, Same.sqT (hG 0 σ H h0) h⟩, for_plain (wi := fun _ H' R => R (Itt K p) H') plain_T (fun R r => r) Pv h0 (fun i τ H' q => Same.sqT (hG i τ H' q) h) hs hd⟩)
theorem for_enumL {ta : TA} {g : TG} {tb : TS} {D : Ends} {σ : L2.St} {p : Addr} {xs : List V} {H0 : Hp} (h : SqL K H0 p xs) (ht : ∀ R : List V → Hp → Prop, R [.ref p] H → ta σ H R) (Pv : Nat → L2.St → Hp → Prop) (h0 : Pv 0 σ H) (hG : ∀ i τ H', Pv i τ H' → SqL K H' p xs)
    (hs : ∀ i x τ H' T, xs[i]? = some x → Pv i τ H' → H' T = none → g (.ref T) τ (upd H' T (.tup [.int (i : Nat), x])) fun ρ H2 => tb (turnE D (Pv (i + 1))) ρ H2) (hd : ∀ τ H', Pv xs.length τ H' → D.nx τ H') : tFor (iEnumU K ta) g tb D σ H :=
  .inl (ht _ ⟨p, xs, rfl, hG 0 σ H h0, for_pairs (wi := fun _ H' R => R (Ite K p) H') pairs_L (fun R r => r) Pv h0 hG hs hd⟩)
end
end U
namespace U
open PySem PySem.Spec PyProof.Rows L2

/-! ### the law's moves -/
theorem colN_way {i j : Nat} (hi : i < 3) (hj : j < 3) (n : i ≠ j) : colN i j = wayI i j := by
  rcases (show i = 0 ∧ j = 1 ∨ i = 0 ∧ j = 2 ∨ i = 1 ∧ j = 0 ∨ i = 1 ∧ j = 2 ∨ i = 2 ∧ j = 0 ∨ i = 2 ∧ j = 1 by omega) with ⟨rfl, rfl⟩ | ⟨rfl, rfl⟩ | ⟨rfl, rfl⟩ | ⟨rfl, rfl⟩ | ⟨rfl, rfl⟩ | ⟨rfl, rfl⟩ <;> rfl
def crP (rows : LL) (ds : List Nat) (c p : Nat) : List (List Nat × Int) := match rows[c]?, ds[c]? with
  | some r, some d => (nextP r d (ds.drop (c + 1)) p).map fun q => (ds.take c ++ q.1, q.2)
  | _, _ => []
def crM (rows : LL) (ds : List Nat) (c : Nat) : List (List Nat × Int) := [0, 1, 2].flatMap (crP rows ds c)
theorem crP_succ {r : List (Option Int)} {rs : LL} {d : Nat} {es : List Nat} (c p : Nat) : crP (r :: rs) (d :: es) (c + 1) p = (crP rs es c p).map fun q => (d :: q.1, q.2) := by
  unfold crP
  rw [List.getElem?_cons_succ, List.getElem?_cons_succ]
  cases rs[c]? with
  | none => rfl
  | some a =>
    cases es[c]? with
    | none => rfl
    | some b =>
      show List.map _ _ = List.map _ (List.map _ _)
      rw [List.map_map]
      rfl
theorem crP_zero {r : List (Option Int)} {rs : LL} {d : Nat} {es : List Nat} (p : Nat) : crP (r :: rs) (d :: es) 0 p = nextP r d es p := by
  show List.map (fun q : List Nat × Int => ([] ++ q.1, q.2)) _ = _
  show List.map (fun q : List Nat × Int => q) (nextP r d es p) = _
  exact List.map_id' _
theorem next_range : ∀ {rows : LL} {ds : List Nat}, ds.length = rows.length → (List.range rows.length).flatMap (crM rows ds) = nextL rows ds
  | [], [], _ => rfl
  | [], _ :: _, h => by cases h
  | _ :: _, [], h => by cases h
  | r :: rs, d :: es, h => by
    have ih := next_range (rows := rs) (ds := es) (Nat.succ.inj h)
    unfold nextL
    rw [← ih, List.length_cons, List.range_succ_eq_map, List.flatMap_cons, List.flatMap_map, List.map_flatMap]
    congr 1
    · unfold crM
      congr 1
      funext p
      exact crP_zero p
    · congr 1
      funext c
      unfold crM
      rw [List.map_flatMap]
      congr 1
      funext p
      exact crP_succ c p
/-- a list under way of pairs of an arrangement and a price -/
def MvG (H0 H : Hp) (z : Addr) (ms : List (List Nat × Int)) : Prop := Same H0 H ∧ (H0 z = none ∧ ∃ ts : List Addr, H z = some (.lst (ts.map V.ref)) ∧ (ts.length = ms.length ∧ ∀ (i : Nat) (t : Addr) (m : List Nat × Int), ts[i]? = some t → ms[i]? = some m → H t = some (.tup [.str (wd m.1), .int m.2])))
theorem MvG.mk0 {H : Hp} {z : Addr} (n : H z = none) : MvG H (upd H z (.lst [])) z [] := ⟨same_new n, n, [], upd_same, rfl, fun i t m e => nomatch e⟩
theorem MvG.same {H0 H H' : Hp} {z : Addr} {ms : List (List Nat × Int)} (g : MvG H0 H z ms) (e : Same H H') : MvG H0 H' z ms := by
  obtain ⟨s, n, ts, h1, h2, h3⟩ := g
  exact ⟨s.trans e, n, ts, e _ _ h1, h2, fun i t m q1 q2 => e _ _ (h3 i t m q1 q2)⟩
theorem MvG.push {H0 H : Hp} {z t : Addr} {ms : List (List Nat × Int)} {m : List Nat × Int} (g : MvG H0 H z ms) (ht : H t = some (.tup [.str (wd m.1), .int m.2])) : ∃ ts : List Addr, H z = some (.lst (ts.map V.ref)) ∧ (ts.length = ms.length ∧ MvG H0 (upd H z (.lst (ts.map V.ref ++ [.ref t]))) z (ms ++ [m])) := by
  obtain ⟨s, n, ts, h1, h2, h3⟩ := g
  have ne : ∀ {a : Addr} {xs : List V}, H a = some (.tup xs) → a ≠ z := fun e q => by rw [q, h1] at e; cases e
  refine ⟨ts, h1, h2, (Off.trans (Same.off s) off_upd).same n, n, ts ++ [t], by rw [upd_same]; simp, by simp [h2], fun i a x e1 e2 => ?_⟩
  by_cases lt : i < ts.length
  · rw [List.getElem?_append_left lt] at e1
    rw [List.getElem?_append_left (by omega)] at e2
    have := h3 i a x e1 e2
    rw [upd_ne (ne this)]
    exact this
  · have e : i = ts.length := by
      have := (List.getElem?_eq_some_iff.mp e1).1
      simp at this
      omega
    subst e
    rw [List.getElem?_append_right (Nat.le_refl _), Nat.sub_self] at e1
    rw [List.getElem?_append_right (by omega), h2, Nat.sub_self] at e2
    cases e1
    cases e2
    rw [upd_ne (ne ht)]
    exact ht
def sp__law_price (K : PySem.W.Frag) : Sp := sp3 fun x y z H Q _ => ∃ a r d p, x = .ref a ∧ SqL K H a (r.map pV) ∧ r.length = 6 ∧ y = .str (pl d) ∧ z = .str (pl p) ∧ d < 3 ∧ p < 3 ∧ d ≠ p ∧ ∀ H', Same H H' → Q (pV (prF r d p)) H'
def sp__law_next (K : PySem.W.Frag) : Sp := sp2 fun x z H Q _ => ∃ L rows ds, x = .ref L ∧ GrL K H L rows ∧ rows.length ≤ 60 ∧ (∀ r ∈ rows, r.length = 6) ∧ z = .str (wd ds) ∧ ds.length = rows.length ∧ D3 ds ∧ ∀ l H', MvG H H' l (nextL rows ds) → Q (.ref l) H'
def t__law_price (K : PySem.W.Frag) (E : XK) : TS := (tRet (tOp (uIx K) (tVar 0) (tBM K "list" (rIndex K) (tLst (tCons (tC (.str "ab")) (tCons (tC (.str "ac")) (tCons (tC (.str "ba")) (tCons (tC (.str "bc")) (tCons (tC (.str "ca")) (tCons (tC (.str "cb")) tNil))))))) (tCons (tOp uAdd (tVar 1) (tVar 2)) tNil))))
def t__law_next (K : PySem.W.Frag) (E : XK) : TS := (tSeq (tAsg (tLst tNil) (gName 2)) (tSeq (tFor (iEnumU K (tCons (tVar 0) tNil)) (gTup K 2 (gCons (gName 3) (gCons (gName 4) gNil))) (tSeq (tAsg (tSl (uSl K) (tVar 1) (tPart (tOp uAdd (tVar 3) (tC (.int 1)))) tNoPart) (gName 5)) (tFor (iStr (tC (.str "abc"))) (gName 6) (tIfS (tAnd (tTest (tOp (uNe K) (tVar 6) (tOp (uIx K) (tVar 1) (tVar 3)))) (tAnd (tTest (tOp (uIn K true) (tOp (uIx K) (tVar 1) (tVar 3)) (tVar 5))) (tTest (tOp (uIn K true) (tVar 6) (tVar 5))))) (tSeq (tAsg (tFn (sp__law_price K) E (tCons (tVar 4) (tCons (tOp (uIx K) (tVar 1) (tVar 3)) (tCons (tVar 6) tNil)))) (gName 7)) (tIfS (tTest (tOp uNis (tVar 7) (tC .non))) (tDrop (tBM K "list" rAppend (tVar 2) (tCons (tTup (tCons (tOp uAdd (tOp uAdd (tSl (uSl K) (tVar 1) tNoPart (tPart (tVar 3))) (tVar 6)) (tVar 5)) (tCons (tVar 7) tNil))) tNil))) tNext)) tNext)))) (tRet (tVar 2))))
section
variable {K : PySem.W.Frag} (F : KF K) {vs : List V} {H : Hp} {Q : VK} {E : XK}
local macro_rules | `(tactic| walk_at "w") => `(tactic| try simp only [turnE, lcT, Snoc, tRet, tRetN, tAndV, tOrV, tNotV, tCB, tCons, tVar, tNil, tC, tOp, tSeq, tAsg, gName, gSub, tIfS, tDrop, tFn, tTup, tLst, tNext, tB, tTest, tNot, tAnd, tOr, tIf, tChain, tUn, rU, tFld, tPart, tNoPart, L2.tSl, tBM, tPar, tPar3, tTruth, tDNewK,
  L2.start, List.map_cons, List.map_nil, List.length_cons, List.length_nil, List.replicate_succ, List.replicate_zero, List.append_nil, List.nil_append, List.cons_append, List.singleton_append, Nat.sub_self, Nat.zero_add, Nat.reduceAdd, Nat.reduceSub,
  List.getElem?_cons_zero, List.getElem?_cons_succ, List.set_cons_zero, List.set_cons_succ, Option.some.injEq, exists_eq_left, exists_eq_left', V.int.injEq, V.bl.injEq, V.str.injEq, V.ref.injEq,
  uAdd_int, uAdd_str, uSub_int, uMul_int, uMul_str, uDiv_int, uMod_int, uPow_int, uLt_int, uLe_int, uGt_int, uGe_int, uIs_non, uNis_non, uIs_bl, uNis_bl, sp1, sp2, sp3, sp4, uEq_int, uEq_str, uNe_int, uNe_str, uSl_str, uLen_str, decide_eq_true_eq])
local macro_rules | `(tactic| walk_at "1") => `(tactic| try simp only [turnE, lcT, Snoc, tRet, tRetN, tAndV, tOrV, tNotV, tCB, tCons, tVar, tNil, tC, tOp, tAsg, gName, gSub, tIfS, tDrop, tFn, tTup, tLst, tNext, tB, tTest, tNot, tAnd, tOr, tIf, tChain, tUn, rU, tFld, tPart, tNoPart, L2.tSl, tBM, tPar, tPar3, tTruth, tDNewK,
  L2.start, List.map_cons, List.map_nil, List.length_cons, List.length_nil, List.replicate_succ, List.replicate_zero, List.append_nil, List.nil_append, List.cons_append, List.singleton_append, Nat.sub_self, Nat.zero_add, Nat.reduceAdd, Nat.reduceSub,
  List.getElem?_cons_zero, List.getElem?_cons_succ, List.set_cons_zero, List.set_cons_succ, Option.some.injEq, exists_eq_left, exists_eq_left', V.int.injEq, V.bl.injEq, V.str.injEq, V.ref.injEq,
  uAdd_int, uAdd_str, uSub_int, uMul_int, uMul_str, uDiv_int, uMod_int, uPow_int, uLt_int, uLe_int, uGt_int, uGe_int, uIs_non, uNis_non, uIs_bl, uNis_bl, sp1, sp2, sp3, sp4, uEq_int, uEq_str, uNe_int, uNe_str, uSl_str, uLen_str, decide_eq_true_eq])
local macro_rules | `(tactic| walk_at "s") => `(tactic| ((try dsimp only [turnE]); with_reducible refine seq_ ?_))

theorem abc_wd : ("abc" : Str) = wd [0, 1, 2] := by decide
theorem in_wd (d : Nat) (es : List Nat) : (!(Builtin.Str.occurrences (wd es) (pl d) 0 (wd es).length 1).isEmpty) = decide (d ∈ es) := by
  show (!(Builtin.Str.occurrences (wd es) ⟨#[97 + d]⟩ 0 (wd es).length 1).isEmpty) = _
  rw [PySem.StrLaws.found_one]
  apply decide_eq_decide.mpr
  simp [wd]
include F in
theorem read__law_price (h : sp__law_price K vs H Q E) : t__law_price K E { nx := fun _ H' => Q .non H', rt := Q } (start ["_law_line", "_law_first", "_law_last"] vs) H := by
  match vs, h with
  | [_, _, _], ⟨a, r, d, p, rfl, ha, h6, rfl, rfl, hd, hp, n, q⟩ =>
    unfold t__law_price
    walk_at "1"
    refine ⟨by decide, fun W nW => ?_⟩
    rw [ways6V]
    have s1 : Same H (upd H W (.lst (waysN.map fun w => V.str (wd [w.1, w.2])))) := same_new nW
    have g1 : upd H W (.lst (waysN.map fun w => V.str (wd [w.1, w.2]))) W = some (.lst (waysN.map fun w => V.str (wd [w.1, w.2]))) := upd_same
    generalize upd H W (.lst (waysN.map fun w => V.str (wd [w.1, w.2]))) = H1 at *
    obtain ⟨i1, i2⟩ := idx_way (K := K) (H := H1) (Q := fun v H2 => uIx K (.ref a) v H2 Q) hd hp n (.inl (.inl g1)) (by
      have lt := wayI_lt hd hp n
      refine ⟨_, pV (prF r d p), .inl (Same.seq s1 ha), ?_, q _ s1⟩
      rw [← colN_way hd hp n] at *
      exact at_nat (by unfold prF; rw [List.getElem?_map, List.getElem?_eq_getElem (by omega)]; rfl))
    refine ⟨i1, ⟨by show 1 + 1 ≤ sizeLine; decide, i2⟩⟩
include F in
theorem read__law_next (h : sp__law_next K vs H Q E) : t__law_next K E { nx := fun _ H' => Q .non H', rt := Q } (start ["_law_rows_here", "_law_word_here", "_law_found", "_law_crate", "_law_line", "_law_rest", "_law_place", "_law_price_here"] vs) H := by
  match vs, h with
  | [_, _], ⟨L, rows, ds, rfl, hL, h60, h6, rfl, hl, h3, q⟩ =>
    unfold t__law_next sp__law_price
    obtain ⟨as, a1, a2, a3⟩ := id hL
    walk_at "s"
    walk_at "1"
    refine ⟨by decide, fun z nz => ?_⟩
    have g0 : MvG H (upd H z (.lst [])) z [] := .mk0 nz
    generalize upd H z (.lst []) = H1 at *
    walk_at "s"
    refine for_enumL (H0 := H1) (p := L) (xs := as.map V.ref) (Same.seq g0.1 a1) (fun R r => by walk_at "1"; exact r)
      (fun i τ H' => ∃ o3 o4 o5 o6 o7, τ = [some (.ref L), some (.str (wd ds)), some (.ref z), o3, o4, o5, o6, o7] ∧ MvG H H' z ((List.range i).flatMap (crM rows ds)))
      ⟨_, _, _, _, _, rfl, g0⟩ (fun i τ H' ⟨_, _, _, _, _, _, g⟩ => Same.seq g.1 a1) ?_ ?_
    · rintro i x τ H2 T hx ⟨o3, o4, o5, o6, o7, rfl, g⟩ nT
      rw [List.getElem?_map] at hx
      obtain ⟨a, hai, rfl⟩ := Option.map_eq_some_iff.mp hx
      have hi : i < rows.length := a2 ▸ (List.getElem?_eq_some_iff.mp hai).1
      have hr : rows[i]? = some rows[i] := List.getElem?_eq_getElem hi
      have hd : ds[i]? = some ds[i] := List.getElem?_eq_getElem (by omega)
      have d3 : ds[i] < 3 := h3 _ (List.getElem_mem _)
      have g := g.same (same_new (o := .tup [.int (i : Nat), .ref a]) nT)
      have gT : upd H2 T (.tup [.int (i : Nat), .ref a]) T = some (.tup [.int (i : Nat), .ref a]) := upd_same
      generalize upd H2 T (.tup [.int (i : Nat), .ref a]) = H3 at *
      refine ⟨T, _, rfl, .inl (.inl gT), rfl, ?_⟩
      refine ⟨_, _, rfl, _, _, rfl, rfl, ?_⟩
      simp only [List.set_cons_zero, List.set_cons_succ]
      walk_at "s"
      walk_at "1"
      refine ⟨Nat.le_trans (by rw [wd_length, hl]; exact h60) (by decide), ?_⟩
      rw [show ((i : Nat) : Int) + 1 = ((i + 1 : Nat) : Int) by omega, cut_from (ds := ds) (k := i + 1) (by omega)]
      have pre : (List.range (i + 1)).flatMap (crM rows ds) = (List.range i).flatMap (crM rows ds) ++ [0, 1, 2].flatMap (crP rows ds i) := by
        rw [List.range_succ, List.flatMap_append, List.flatMap_singleton]
        rfl
      rw [pre]
      have hn : ds.drop (i + 1) = ds.drop (i + 1) := rfl
      generalize hes : ds.drop (i + 1) = es at hn
      have hes60 : es.length ≤ 60 := by rw [← hes, List.length_drop]; omega
      refine for_strL (z := wd [0, 1, 2]) (fun Q r => r) (fun j τ H' => ∃ o6 o7, τ = [some (.ref L), some (.str (wd ds)), some (.ref z), some (.int (i : Nat)), some (.ref a), some (.str (wd es)), o6, o7] ∧ MvG H H' z ((List.range i).flatMap (crM rows ds) ++ ([0, 1, 2].take j).flatMap (crP rows ds i)))
        ⟨_, _, rfl, by simpa using g⟩ ?_ ?_
      · rintro j x τ H4 hx ⟨o6, o7, rfl, g⟩
        rw [strL_wd, List.getElem?_map] at hx
        obtain ⟨p, hp, rfl⟩ := Option.map_eq_some_iff.mp hx
        have p3 : p < 3 := by
          have := List.mem_of_getElem? hp
          simp only [List.mem_cons, List.not_mem_nil, or_false] at this
          omega
        have tk : [0, 1, 2].take (j + 1) = [0, 1, 2].take j ++ [p] := by
          rw [List.take_succ, hp]
          rfl
        have same : ∀ {H5 : Hp}, MvG H H5 z ((List.range i).flatMap (crM rows ds) ++ ([0, 1, 2].take j).flatMap (crP rows ds i)) → crP rows ds i p = [] → MvG H H5 z ((List.range i).flatMap (crM rows ds) ++ ([0, 1, 2].take (j + 1)).flatMap (crP rows ds i)) := fun g e => by
          rw [tk, List.flatMap_append, List.flatMap_singleton, e, List.append_nil]
          exact g
        have cr : crP rows ds i p = (nextP rows[i] ds[i] es p).map fun q => (ds.take i ++ q.1, q.2) := by
          unfold crP
          rw [hr, hd, hes]
        simp only [gName, List.set_cons_zero, List.set_cons_succ]
        walk_at "1"
        have at_ : ∀ {Q : VK} {H : Hp}, Q (.str (pl ds[i])) H → uIx K (.str (wd ds)) (.int (i : Nat)) H Q := fun {Q H} q => str_at2 (by omega) (by omega) (by rw [hd]; exact q)
        refine at_ ⟨_, rfl, ?_⟩
        by_cases e1 : p = ds[i]
        · rw [if_neg (by simp [e1])]
          exact ⟨_, _, rfl, same g (by rw [cr]; unfold nextP; rw [if_neg (fun z => z.1 e1)]; rfl)⟩
        rw [if_pos (by simpa using fun z => e1 (pl_inj z))]
        refine at_ ?_
        show ∃ k, _ ∧ _
        rw [in_wd]
        refine ⟨_, rfl, ?_⟩
        by_cases e2 : ds[i] ∈ es
        · rw [if_neg (by simp [e2])]
          exact ⟨_, _, rfl, same g (by rw [cr]; unfold nextP; rw [if_neg (fun z => z.2.1 e2)]; rfl)⟩
        rw [if_pos (by simp [e2])]
        show ∃ k, _ ∧ _
        rw [in_wd]
        refine ⟨_, rfl, ?_⟩
        by_cases e3 : p ∈ es
        · rw [if_neg (by simp [e3])]
          exact ⟨_, _, rfl, same g (by rw [cr]; unfold nextP; rw [if_neg (fun z => z.2.2 e3)]; rfl)⟩
        rw [if_pos (by simp [e3])]
        show tSeq _ _ _ _ _
        walk_at "s"
        walk_at "1"
        refine at_ ⟨a, rows[i], ds[i], p, rfl, Same.seq g.1 (a3 i a _ hai hr), h6 _ (List.getElem_mem _), rfl, rfl, d3, p3, fun z => e1 z.symm, fun H5 s5 => ?_⟩
        have g5 := g.same s5
        cases hpr : prF rows[i] ds[i] p with
        | none =>
          have nx : nextP rows[i] ds[i] es p = [] := by unfold nextP; rw [if_pos ⟨e1, e2, e3⟩, hpr]
          walk_at "1"
          rw [if_neg (by simp [pV])]
          exact ⟨_, _, rfl, same g5 (by rw [cr, nx]; rfl)⟩
        | some c =>
          have nx : nextP rows[i] ds[i] es p = [(p :: es, c)] := by unfold nextP; rw [if_pos ⟨e1, e2, e3⟩, hpr]
          walk_at "1"
          rw [if_pos (by simp [pV])]
          walk_at "1"
          obtain ⟨_, _, ts, t1, t2, _⟩ := id g5
          rw [cut_to (ds := ds) (k := i) (by omega), ← wd_pl p, wd_app, wd_app]
          have few : (ds.take i).length ≤ 60 := by rw [List.length_take]; omega
          refine ⟨tyL t1, Nat.le_trans (by rw [wd_length, hl]; exact h60) (by decide), ?_, ?_, by decide, fun t nt => ?_⟩
          · rw [wd_length, wd_length]
            exact Nat.le_trans (show _ ≤ 61 by rw [List.length_singleton]; omega) (by decide)
          · rw [wd_length, wd_length, List.length_append, List.length_singleton]
            exact Nat.le_trans (show _ ≤ 121 by omega) (by decide)
          · rw [List.append_assoc]
            have s6 : Same H5 (upd H5 t (.tup [.str (wd (ds.take i ++ ([p] ++ es))), pV (some c)])) := same_new nt
            have gt : upd H5 t (.tup [.str (wd (ds.take i ++ ([p] ++ es))), pV (some c)]) t = some (.tup [.str (wd (ds.take i ++ ([p] ++ es), c).1), .int (ds.take i ++ ([p] ++ es), c).2]) := upd_same
            have g6 := g5.same s6
            generalize upd H5 t (.tup [.str (wd (ds.take i ++ ([p] ++ es))), pV (some c)]) = H6 at *
            obtain ⟨us, u1, u2, g7⟩ := g6.push gt
            have ful : ∀ k ≤ rows.length, ((List.range k).flatMap (crM rows ds)).length ≤ 9 * k := fun k hk => by
              clear cr pre
              induction k with
              | zero => simp
              | succ k ih =>
                have := ih (by omega)
                rw [List.range_succ, List.flatMap_append, List.flatMap_singleton, List.length_append]
                have one : ∀ p, (crP rows ds k p).length ≤ 1 := fun p => by
                  unfold crP
                  split
                  · rw [List.length_map]
                    unfold nextP
                    split
                    · split <;> simp
                    · simp
                  · simp
                have o0 := one 0
                have o1 := one 1
                have o2 := one 2
                have : (crM rows ds k).length ≤ 3 := by
                  show ([0, 1, 2].flatMap (crP rows ds k)).length ≤ 3
                  simp only [List.flatMap_cons, List.flatMap_nil, List.length_append, List.length_nil]
                  omega
                omega
            refine app_of u1 ?_ ⟨_, _, rfl, ?_⟩
            · have one : ∀ p, (crP rows ds i p).length ≤ 1 := fun p => by
                unfold crP
                split
                · rw [List.length_map]
                  unfold nextP
                  split
                  · split <;> simp
                  · simp
                · simp
              have := ful i (by omega)
              have le : (([0, 1, 2].take j).flatMap (crP rows ds i)).length ≤ 3 := by
                have o0 := one 0
                have o1 := one 1
                have o2 := one 2
                match j with
                | 0 => simp
                | 1 => simp; omega
                | 2 => simp; omega
                | j + 3 =>
                  simp only [List.take_succ_cons, List.take_nil, List.flatMap_cons, List.flatMap_nil, List.length_append, List.length_nil]
                  omega
              rw [List.length_map, u2, List.length_append]
              omega
            · rw [tk, List.flatMap_append, List.flatMap_singleton, cr, nx, ← List.append_assoc]
              exact g7
      · rintro τ H4 ⟨o6, o7, rfl, g⟩
        exact ⟨_, _, _, _, _, rfl, g⟩
    · rintro τ H2 ⟨o3, o4, o5, o6, o7, rfl, g⟩
      walk_at "1"
      rw [List.length_map, a2, next_range hl] at g
      exact q z H2 g
end
end U
namespace U
open PySem PySem.Spec PyProof.Rows L2

/-! ### tables of costs as dicts -/
def toK (p : List Nat × Int) : Key × V := (.inr (wd p.1), .int p.2)
theorem toK_key {p : List Nat × Int} {w : List Nat} : (toK p).1 = .inr (wd w) ↔ p.1 = w := by
  unfold toK
  constructor
  · intro e
    injection e with e
    exact wd_inj e
  · rintro rfl
    rfl
theorem val_toK (w : List Nat) : ∀ cs : Cst, valV (cs.map toK) (.inr (wd w)) = (getC cs w).map V.int
  | [] => rfl
  | p :: r => by
    rw [List.map_cons]
    by_cases e : p.1 = w
    · rw [valV_pos (toK_key.mpr e), getC_pos e]
      rfl
    · rw [valV_neg (fun z => e (toK_key.mp z)), getC_neg e]
      exact val_toK w r
theorem put_toK (cs : Cst) (w : List Nat) (c : Int) : putK (cs.map toK) (.inr (wd w)) (.int c) = (putC cs w c).map toK := by
  have ea : ((cs.map toK).any fun kv => decide (kv.1 = .inr (wd w))) = cs.any fun p => decide (p.1 = w) := by
    rw [List.any_map]
    congr 1
    funext p
    exact decide_eq_decide.mpr toK_key
  unfold putK putC
  rw [ea]
  split
  · rw [List.map_map, List.map_map]
    apply List.map_congr_left
    intro p _
    show (if (toK p).1 = .inr (wd w) then ((toK p).1, V.int c) else toK p) = toK (if p.1 = w then (p.1, c) else p)
    by_cases e : p.1 = w
    · rw [if_pos e, if_pos (toK_key.mpr e)]
      rfl
    · rw [if_neg e, if_neg (fun z => e (toK_key.mp z))]
  · rw [List.map_append]
    rfl
/-- those that are not done -/
def openC (ds cs : Cst) : Cst := cs.filter fun p => (getC ds p.1).isNone
def pairP (p : List Nat × Int) : Int × Str := (p.2, wd p.1)
section
variable {K : PySem.W.Frag} (F : KF K) {vs : List V} {H : Hp} {Q : VK} {E : XK}
theorem plain_K {d : Addr} {o : Obj} {kvs : List (Key × V)} : Plain (Itk d o kvs) (kvs.map fun p => kV p.1) fun H => H d = some (.frz o (.dK kvs)) where
  go := fun i H h lt => ⟨h, by simpa using lt⟩
  yld := fun i H x H' h ⟨e, k, v, h1, h2⟩ => ⟨e, fun _ => by rw [List.getElem?_map, h1, h2]; rfl⟩
  stop := fun i H h e => ⟨h, by simp at e; omega⟩
def sp__law_far (K : PySem.W.Frag) : Sp := sp2 fun x z H Q _ => ∃ L rows s, x = .ref L ∧ GrL K H L rows ∧ rows.length ≤ 5 ∧ (∀ r ∈ rows, r.length = 6) ∧ PosR rows ∧ z = .str (wd s) ∧ s.length = rows.length ∧ D3 s ∧ ∀ d H' ds, Same H H' → H d = none → H' d = some (.dK (ds.map toK)) → (∀ x, Least rows s x (getC ds x)) → Q (.ref d) H'
def t__law_far (K : PySem.W.Frag) (E : XK) : TS := (tSeq (tAsg (tTup (tCons (tDisp [((tVar 1), (tC (.int 0)))]) (tCons tDNewK tNil))) (gTup K 2 (gCons (gName 2) (gCons (gName 3) gNil)))) (tSeq (tWhile (tTest (tOp uLt (tCB rLenD (tCons (tVar 3) tNil)) (tCB rLenD (tCons (tVar 2) tNil)))) (tSeq (tAsg (tOp (uIx K) (tCB (rMinP K) (tCons (tLockE (tLc (iKeys (tVar 2)) (gName 4) (tB (tDNotIn (tVar 4) (tVar 3))) (tTup (tCons (tDGet (tVar 2) (tVar 4)) (tCons (tVar 4) tNil))) [4])) tNil)) (tC (.int 1))) (gName 5)) (tSeq (tAsg (tDGet (tVar 2) (tVar 5)) (gSub (tVar 3) (tVar 5) rSetD)) (tFor (iSeq K (tFn (sp__law_next K) E (tCons (tVar 0) (tCons (tVar 5) tNil)))) (gTup K 2 (gCons (gName 4) (gCons (gName 6) gNil))) (tSeq (tAsg (tOp uAdd (tDGet (tVar 2) (tVar 5)) (tVar 6)) (gName 7)) (tIfS (tOr (tB (tDNotIn (tVar 4) (tVar 2))) (tTest (tOp uLt (tVar 7) (tDGet (tVar 2) (tVar 4))))) (tAsg (tVar 7) (gSub (tVar 2) (tVar 4) rSetD)) tNext)))))) (tRet (tVar 3))))
local macro_rules | `(tactic| walk_at "w") => `(tactic| try simp only [turnE, lcT, Snoc, tRet, tRetN, tAndV, tOrV, tNotV, tCB, tCons, tVar, tNil, tC, tOp, tSeq, tAsg, gName, gSub, tIfS, tDrop, tFn, tTup, tLst, tNext, tB, tTest, tNot, tAnd, tOr, tIf, tChain, tUn, rU, tFld, tPart, tNoPart, L2.tSl, tBM, tPar, tPar3, tTruth, tDNewK,
  L2.start, List.map_cons, List.map_nil, List.length_cons, List.length_nil, List.replicate_succ, List.replicate_zero, List.append_nil, List.nil_append, List.cons_append, List.singleton_append, Nat.sub_self, Nat.zero_add, Nat.reduceAdd, Nat.reduceSub,
  List.getElem?_cons_zero, List.getElem?_cons_succ, List.set_cons_zero, List.set_cons_succ, Option.some.injEq, exists_eq_left, exists_eq_left', V.int.injEq, V.bl.injEq, V.str.injEq, V.ref.injEq,
  uAdd_int, uAdd_str, uSub_int, uMul_int, uMul_str, uDiv_int, uMod_int, uPow_int, uLt_int, uLe_int, uGt_int, uGe_int, uIs_non, uNis_non, uIs_bl, uNis_bl, sp1, sp2, sp3, sp4, uEq_int, uEq_str, uNe_int, uNe_str, uSl_str, uLen_str, decide_eq_true_eq])
local macro_rules | `(tactic| walk_at "1") => `(tactic| try simp only [turnE, lcT, Snoc, tRet, tRetN, tAndV, tOrV, tNotV, tCB, tCons, tVar, tNil, tC, tOp, tAsg, gName, gSub, tIfS, tDrop, tFn, tTup, tLst, tNext, tB, tTest, tNot, tAnd, tOr, tIf, tChain, tUn, rU, tFld, tPart, tNoPart, L2.tSl, tBM, tPar, tPar3, tTruth, tDNewK,
  L2.start, List.map_cons, List.map_nil, List.length_cons, List.length_nil, List.replicate_succ, List.replicate_zero, List.append_nil, List.nil_append, List.cons_append, List.singleton_append, Nat.sub_self, Nat.zero_add, Nat.reduceAdd, Nat.reduceSub,
  List.getElem?_cons_zero, List.getElem?_cons_succ, List.set_cons_zero, List.set_cons_succ, Option.some.injEq, exists_eq_left, exists_eq_left', V.int.injEq, V.bl.injEq, V.str.injEq, V.ref.injEq,
  uAdd_int, uAdd_str, uSub_int, uMul_int, uMul_str, uDiv_int, uMod_int, uPow_int, uLt_int, uLe_int, uGt_int, uGe_int, uIs_non, uNis_non, uIs_bl, uNis_bl, sp1, sp2, sp3, sp4, uEq_int, uEq_str, uNe_int, uNe_str, uSl_str, uLen_str, decide_eq_true_eq])
local macro_rules | `(tactic| walk_at "s") => `(tactic| ((try dsimp only [turnE]); with_reducible refine seq_ ?_))

/-- the nearest that is not done -/
theorem far_near {c d : Addr} {cs ds : Cst} {x0 x1 x4 x5 x6 x7 : Option V} {D : Ends} (hc : H c = some (.dK (cs.map toK))) (hd : H d = some (.dK (ds.map toK))) (ne : c ≠ d) (few : cs.length ≤ 1000) (kn : (cs.map (·.1)).Nodup) (left : ∃ w v, (w, v) ∈ cs ∧ getC ds w = none)
    (q : ∀ u k H', Same H H' → getC cs u = some k → getC ds u = none → (∀ x e, getC cs x = some e → getC ds x = none → k ≤ e) → D.nx [x0, x1, some (.ref c), some (.ref d), x4, some (.str (wd u)), x6, x7] H') :
    (tAsg (tOp (uIx K) (tCB (rMinP K) (tCons (tLockE (tLc (iKeys (tVar 2)) (gName 4) (tB (tDNotIn (tVar 4) (tVar 3))) (tTup (tCons (tDGet (tVar 2) (tVar 4)) (tCons (tVar 4) tNil))) [4])) tNil)) (tC (.int 1))) (gName 5)) D [x0, x1, some (.ref c), some (.ref d), x4, x5, x6, x7] H := by
  walk_at "1"
  refine ⟨c, _, hc, trivial, fun od => ?_⟩
  have gc : upd H c (.frz od (.dK (cs.map toK))) c = some (.frz od (.dK (cs.map toK))) := upd_same
  have gd : upd H c (.frz od (.dK (cs.map toK))) d = some (.dK (ds.map toK)) := by rw [upd_ne ne.symm]; exact hd
  have back : ∀ H2, Same (upd H c (.frz od (.dK (cs.map toK)))) H2 → Same H (upd H2 c (.dK (cs.map toK))) := fun H2 s b o e => by
    by_cases z : b = c
    · subst z
      rw [upd_same, ← hc]
      exact e
    · rw [upd_ne z]
      exact s _ _ (by rw [upd_ne z]; exact e)
  generalize upd H c (.frz od (.dK (cs.map toK))) = H1 at *
  show ∃ v, _ ∧ _
  refine ⟨_, rfl, c, od, rfl, .inl ⟨cs.map toK, gc, fun L nL => ?_⟩⟩
  have cL : c ≠ L := by rintro rfl; rw [gc] at nL; cases nL
  refine (show LcB (Itk c od (cs.map toK)) (gName 4) (tB (tDNotIn (tVar 4) (tVar 3))) (tTup (tCons (tDGet (tVar 2) (tVar 4)) (tCons (tVar 4) tNil))) [4] [x0, x1, some (.ref c), some (.ref d), x4, x5, x6, x7] H1 L _ from ?_)
  refine lc_plain (plain_K (d := c) (o := od) (kvs := cs.map toK)) (fun i H' => Same H1 H' ∧ ∃ ts : List Addr, H' L = some (.lst (ts.map V.ref)) ∧ (ts.length = (openC ds (cs.take i)).length ∧ ∀ (k : Nat) (t : Addr) (p : List Nat × Int), ts[k]? = some t → (openC ds (cs.take i))[k]? = some p → H' t = some (.tup [.int p.2, .str (wd p.1)])))
    ⟨same_new nL, [], upd_same, rfl, fun k t p e => nomatch e⟩ (fun i H' z => z.1 _ _ gc) ?_ ?_
  · rintro i x H2 hx ⟨s2, ts, t1, t2, t3⟩
    rw [List.map_map, List.getElem?_map] at hx
    obtain ⟨p, hp, rfl⟩ := Option.map_eq_some_iff.mp hx
    rw [show ((fun p : Key × V => kV p.1) ∘ toK) p = V.str (wd p.1) from rfl]
    have tk : cs.take (i + 1) = cs.take i ++ [p] := by rw [List.take_succ, hp]; rfl
    have lt := (List.getElem?_eq_some_iff.mp hp).1
    have ul : (openC ds (cs.take i)).length ≤ i := Nat.le_trans (List.length_filter_le _ _) (by rw [List.length_take]; omega)
    have mp : getC cs p.1 = some p.2 := getC_of_mem kn (List.mem_of_getElem? hp)
    refine ⟨by simp only [wipe, List.set_cons_succ, List.set_cons_zero], ?_⟩
    simp only [wipe, List.set_cons_zero, List.set_cons_succ]
    walk_at "1"
    refine ⟨_, rfl, _, rfl, d, _, rfl, DGet.k (k := .inr (wd p.1)) (s2 _ _ gd), ?_⟩
    rw [val_toK]
    refine ⟨_, rfl, ?_⟩
    cases e : getC ds p.1 with
    | some v =>
      have un : openC ds (cs.take (i + 1)) = openC ds (cs.take i) := by
        unfold openC
        rw [tk, List.filter_append, List.filter_cons, e]
        simp
      rw [if_neg (by simp)]
      exact ⟨s2, ts, t1, by rw [un]; exact t2, by rw [un]; exact t3⟩
    | none =>
      have un : openC ds (cs.take (i + 1)) = openC ds (cs.take i) ++ [p] := by
        unfold openC
        rw [tk, List.filter_append, List.filter_cons, e]
        simp
      rw [if_pos (by simp)]
      refine ⟨_, rfl, _, rfl, c, .int p.2, rfl, ?_, ?_⟩
      · have := val_toK p.1 cs
        rw [mp] at this
        exact .inl ⟨cs.map toK, .inr (wd p.1), .inr ⟨od, s2 _ _ gc⟩, rfl, this.symm⟩
      · refine ⟨by decide, fun t nt => ?_⟩
        have s3 : Same H2 (upd H2 t (.tup [.int p.2, .str (wd p.1)])) := same_new nt
        have gt : upd H2 t (.tup [.int p.2, .str (wd p.1)]) t = some (.tup [.int p.2, .str (wd p.1)]) := upd_same
        have tL : t ≠ L := by rintro rfl; rw [t1] at nt; cases nt
        generalize upd H2 t (.tup [.int p.2, .str (wd p.1)]) = H3 at *
        refine ⟨_, s3 _ _ t1, ?_, (Off.trans (Same.off (s2.trans s3)) off_upd).same nL, ts ++ [t], by rw [upd_same]; simp, by rw [un]; simp [t2], fun k a x e1 e2 => ?_⟩
        · rw [List.length_map, t2]
          exact Nat.lt_of_lt_of_le (show _ < 1001 by omega) (by decide)
        · rw [un] at e2
          by_cases l : k < ts.length
          · rw [List.getElem?_append_left l] at e1
            rw [List.getElem?_append_left (by omega)] at e2
            have z := t3 k a x e1 e2
            rw [upd_ne (by rintro rfl; rw [t1] at z; cases z)]
            exact s3 _ _ z
          · have ek : k = ts.length := by
              have := (List.getElem?_eq_some_iff.mp e1).1
              simp at this
              omega
            subst ek
            rw [List.getElem?_append_right (Nat.le_refl _), Nat.sub_self] at e1
            rw [List.getElem?_append_right (by omega), t2, Nat.sub_self] at e2
            cases e1
            cases e2
            rw [upd_ne tL]
            exact gt
  · rintro H2 ⟨s2, ts, t1, t2, t3⟩
    rw [List.length_map, List.length_map, List.take_length] at t2 t3
    have s3 := back H2 s2
    refine ⟨s2 _ _ gc, ?_⟩
    have keep : ∀ {a : Addr} {u : HO}, H2 a = some u → (∀ o v, u ≠ .frz o v) → upd H2 c (.dK (cs.map toK)) a = some u := fun {a u} e n => by
      rw [upd_ne]
      · exact e
      · rintro rfl
        rw [s2 _ _ gc] at e
        injection e with e
        exact n _ _ e.symm
    refine ⟨L, ts, (openC ds cs).map pairP, rfl, .inl (.inl (keep t1 (fun o v z => nomatch z))), by rw [List.length_map]; exact t2, fun i t p e1 e2 => ?_, ?_, fun i t p e1 e2 le => ?_⟩
    · rw [List.getElem?_map] at e2
      obtain ⟨x, hx, rfl⟩ := Option.map_eq_some_iff.mp e2
      exact .inl (.inl (keep (t3 i t x e1 hx) (fun o v z => nomatch z)))
    · intro e
      obtain ⟨w, v, m, n⟩ := left
      have : (w, v) ∈ openC ds cs := List.mem_filter.mpr ⟨m, by rw [n]; rfl⟩
      rw [List.map_eq_nil_iff.mp e] at this
      cases this
    · rw [List.getElem?_map] at e2
      obtain ⟨x, hx, rfl⟩ := Option.map_eq_some_iff.mp e2
      refine ⟨_, _, .inr (.inl (.inl (keep (t3 i t x e1 hx) (fun o v z => nomatch z)))), rfl, ?_⟩
      obtain ⟨m1, m2⟩ := List.mem_filter.mp (List.mem_of_getElem? hx)
      refine q x.1 x.2 _ s3 (getC_of_mem kn m1) (by simpa using m2) fun y e hy hn => ?_
      exact le (pairP (y, e)) (List.mem_map.mpr ⟨(y, e), List.mem_filter.mpr ⟨getC_mem hy, by rw [hn]; rfl⟩, rfl⟩)
end
end U
namespace U
open PySem PySem.Spec PyProof.Rows L2

section
variable {K : PySem.W.Frag} (F : KF K) {vs : List V} {H : Hp} {Q : VK} {E : XK}
local macro_rules | `(tactic| walk_at "w") => `(tactic| try simp only [turnE, lcT, Snoc, tRet, tRetN, tAndV, tOrV, tNotV, tCB, tCons, tVar, tNil, tC, tOp, tSeq, tAsg, gName, gSub, tIfS, tDrop, tFn, tTup, tLst, tNext, tB, tTest, tNot, tAnd, tOr, tIf, tChain, tUn, rU, tFld, tPart, tNoPart, L2.tSl, tBM, tPar, tPar3, tTruth, tDNewK,
  L2.start, List.map_cons, List.map_nil, List.length_cons, List.length_nil, List.replicate_succ, List.replicate_zero, List.append_nil, List.nil_append, List.cons_append, List.singleton_append, Nat.sub_self, Nat.zero_add, Nat.reduceAdd, Nat.reduceSub,
  List.getElem?_cons_zero, List.getElem?_cons_succ, List.set_cons_zero, List.set_cons_succ, Option.some.injEq, exists_eq_left, exists_eq_left', V.int.injEq, V.bl.injEq, V.str.injEq, V.ref.injEq,
  uAdd_int, uAdd_str, uSub_int, uMul_int, uMul_str, uDiv_int, uMod_int, uPow_int, uLt_int, uLe_int, uGt_int, uGe_int, uIs_non, uNis_non, uIs_bl, uNis_bl, sp1, sp2, sp3, sp4, uEq_int, uEq_str, uNe_int, uNe_str, uSl_str, uLen_str, decide_eq_true_eq])
local macro_rules | `(tactic| walk_at "1") => `(tactic| try simp only [turnE, lcT, Snoc, tRet, tRetN, tAndV, tOrV, tNotV, tCB, tCons, tVar, tNil, tC, tOp, tAsg, gName, gSub, tIfS, tDrop, tFn, tTup, tLst, tNext, tB, tTest, tNot, tAnd, tOr, tIf, tChain, tUn, rU, tFld, tPart, tNoPart, L2.tSl, tBM, tPar, tPar3, tTruth, tDNewK,
  L2.start, List.map_cons, List.map_nil, List.length_cons, List.length_nil, List.replicate_succ, List.replicate_zero, List.append_nil, List.nil_append, List.cons_append, List.singleton_append, Nat.sub_self, Nat.zero_add, Nat.reduceAdd, Nat.reduceSub,
  List.getElem?_cons_zero, List.getElem?_cons_succ, List.set_cons_zero, List.set_cons_succ, Option.some.injEq, exists_eq_left, exists_eq_left', V.int.injEq, V.bl.injEq, V.str.injEq, V.ref.injEq,
  uAdd_int, uAdd_str, uSub_int, uMul_int, uMul_str, uDiv_int, uMod_int, uPow_int, uLt_int, uLe_int, uGt_int, uGe_int, uIs_non, uNis_non, uIs_bl, uNis_bl, sp1, sp2, sp3, sp4, uEq_int, uEq_str, uNe_int, uNe_str, uSl_str, uLen_str, decide_eq_true_eq])
local macro_rules | `(tactic| walk_at "s") => `(tactic| ((try dsimp only [turnE]); with_reducible refine seq_ ?_))

theorem dget_toK {c : Addr} {cs : Cst} {w : List Nat} (h : H c = some (.dK (cs.map toK))) : DGet H c (.str (wd w)) ((getC cs w).map V.int) := by
  rw [← val_toK]
  exact DGet.k (k := .inr (wd w)) h
theorem dput_toK {c : Addr} {cs : Cst} {w : List Nat} {v : Int} (h : H c = some (.dK (cs.map toK))) (hl : cs.length ≤ 1000) : DPut H c (.str (wd w)) (.int v) (upd H c (.dK ((putC cs w v).map toK))) := by
  rw [← put_toK]
  exact DPut.k (k := .inr (wd w)) h (by rw [List.length_map]; exact Nat.lt_of_lt_of_le (show _ < 1001 by omega) (by decide))
theorem pow3_le {n : Nat} (h : n ≤ 5) : 3 ^ n ≤ 243 := by
  have : n = 0 ∨ n = 1 ∨ n = 2 ∨ n = 3 ∨ n = 4 ∨ n = 5 := by omega
  rcases this with rfl | rfl | rfl | rfl | rfl | rfl <;> decide
/-- the moves behind the nearest one -/
theorem far_moves {L c d : Addr} {rows : LL} {s u : List Nat} {k : Int} {cs ds : Cst} {x4 x6 x7 : Option V} {D : Ends} (hL : GrL K H L rows) (h5 : rows.length ≤ 5) (h6 : ∀ r ∈ rows, r.length = 6) (hP : PosR rows) (hsl : s.length = rows.length) (hs3 : D3 s)
    (hc : H c = some (.dK (cs.map toK))) (hd : H d = some (.dK (ds.map toK))) (ne : c ≠ d) (dij : DijI rows s u k [] cs ds)
    (q : ∀ cs' x4 x6 x7 H', Off c H H' → H' c = some (.dK (cs'.map toK)) → Dij rows s cs' ds → D.nx [some (.ref L), some (.str (wd s)), some (.ref c), some (.ref d), x4, some (.str (wd u)), x6, x7] H') :
    (tFor (iSeq K (tFn (sp__law_next K) E (tCons (tVar 0) (tCons (tVar 5) tNil)))) (gTup K 2 (gCons (gName 4) (gCons (gName 6) gNil))) (tSeq (tAsg (tOp uAdd (tDGet (tVar 2) (tVar 5)) (tVar 6)) (gName 7)) (tIfS (tOr (tB (tDNotIn (tVar 4) (tVar 2))) (tTest (tOp uLt (tVar 7) (tDGet (tVar 2) (tVar 4))))) (tAsg (tVar 7) (gSub (tVar 2) (tVar 4) rSetD)) tNext))) D [some (.ref L), some (.str (wd s)), some (.ref c), some (.ref d), x4, some (.str (wd u)), x6, x7] H := by
  have wu := dij.wl u k (dij.sub u k dij.at_)
  have ul : u.length = rows.length := by rw [wu.len, hsl]
  have u3 := wu.d3 hs3
  refine tFor_seqL ?_
  walk_at "1"
  refine ⟨L, rows, u, rfl, hL, by omega, h6, rfl, ul, u3, fun l H1 g => ⟨l, rfl, ?_⟩⟩
  obtain ⟨s1, nl, ts, t1, t2, t3⟩ := g
  have cl : c ≠ l := by rintro rfl; rw [hc] at nl; cases nl
  have stp : ∀ (i : Nat) (m : List Nat × Int), (nextL rows u)[i]? = some m → Stp rows u m.1 m.2 := fun i m e => (mem_next ul u3).mp (List.mem_of_getElem? e)
  refine ⟨⟨_, .inl (.inl t1)⟩, ?_⟩
  refine for_plain (plain_L (K := K) (a := l) (xs := ts.map V.ref)) (fun R r => r)
    (fun i τ H' => ∃ cs' o4 o6 o7, τ = [some (.ref L), some (.str (wd s)), some (.ref c), some (.ref d), o4, some (.str (wd u)), o6, o7] ∧ (H' c = some (.dK (cs'.map toK)) ∧ (Off c H1 H' ∧ DijI rows s u k ((nextL rows u).take i) cs' ds)))
    ⟨cs, x4, x6, x7, rfl, s1 _ _ hc, Off.refl, dij⟩ (fun i τ H' ⟨_, _, _, _, _, _, o, _⟩ => .inl (.inl (o _ _ cl.symm t1))) ?_ ?_
  · rintro i x τ H2 hx ⟨cs', o4, o6, o7, rfl, c2, o2, dj⟩
    rw [List.getElem?_map] at hx
    obtain ⟨t, ht, rfl⟩ := Option.map_eq_some_iff.mp hx
    have lt : i < (nextL rows u).length := t2 ▸ (List.getElem?_eq_some_iff.mp ht).1
    have hm : (nextL rows u)[i]? = some (nextL rows u)[i] := List.getElem?_eq_getElem lt
    have gt := t3 i t _ ht hm
    have st := stp i _ hm
    have tk : (nextL rows u).take (i + 1) = (nextL rows u).take i ++ [(nextL rows u)[i]] := by rw [List.take_succ, hm]; rfl
    have gt2 : H2 t = some (.tup [.str (wd (nextL rows u)[i].1), .int (nextL rows u)[i].2]) := o2 _ _ (by rintro rfl; rw [s1 _ _ hc] at gt; cases gt) gt
    generalize (nextL rows u)[i] = m at *
    have see := dj.see hP st
    have few : cs'.length ≤ 1000 := Nat.le_trans (dj.few hs3) (by rw [hsl]; exact Nat.le_trans (pow3_le h5) (by decide))
    have cost := dj.sub u k dj.at_
    refine ⟨t, _, rfl, .inl (.inl gt2), rfl, ?_⟩
    refine ⟨_, _, rfl, _, _, rfl, rfl, ?_⟩
    simp only [List.set_cons_zero, List.set_cons_succ]
    walk_at "s"
    simp only [tDGet]
    walk_at "1"
    have gu := dget_toK (w := u) c2
    rw [cost] at gu
    refine ⟨_, rfl, _, rfl, c, .int k, rfl, gu, ?_⟩
    walk_at "1"
    refine ⟨_, rfl, _, rfl, c, _, rfl, dget_toK (w := m.1) c2, ?_⟩
    refine ⟨_, rfl, ?_⟩
    have same : relax cs' m.1 (k + m.2) = cs' → ∃ cs2 o4 o6 o7, [some (V.ref L), some (V.str (wd s)), some (.ref c), some (.ref d), some (.str (wd m.1)), some (.str (wd u)), some (.int m.2), some (.int (k + m.2))] = [some (V.ref L), some (V.str (wd s)), some (.ref c), some (.ref d), o4, some (.str (wd u)), o6, o7] ∧ (H2 c = some (.dK (cs2.map toK)) ∧ (Off c H1 H2 ∧ DijI rows s u k ((nextL rows u).take (i + 1)) cs2 ds)) := fun e => ⟨cs', _, _, _, rfl, c2, o2, by rw [tk, ← e]; exact see⟩
    have new : relax cs' m.1 (k + m.2) = putC cs' m.1 (k + m.2) → ∃ cs2 o4 o6 o7, [some (V.ref L), some (V.str (wd s)), some (.ref c), some (.ref d), some (.str (wd m.1)), some (.str (wd u)), some (.int m.2), some (.int (k + m.2))] = [some (V.ref L), some (V.str (wd s)), some (.ref c), some (.ref d), o4, some (.str (wd u)), o6, o7] ∧ (upd H2 c (.dK ((putC cs' m.1 (k + m.2)).map toK)) c = some (.dK (cs2.map toK)) ∧ (Off c H1 (upd H2 c (.dK ((putC cs' m.1 (k + m.2)).map toK))) ∧ DijI rows s u k ((nextL rows u).take (i + 1)) cs2 ds)) := fun e => ⟨putC cs' m.1 (k + m.2), _, _, _, rfl, upd_same, o2.trans off_upd, by rw [tk, ← e]; exact see⟩
    have put : DPut H2 c (.str (wd m.1)) (.int (k + m.2)) (upd H2 c (.dK ((putC cs' m.1 (k + m.2)).map toK))) := dput_toK c2 few
    unfold relax at same new
    cases e : getC cs' m.1 with
    | none =>
      rw [e] at new
      rw [if_pos (by simp)]
      walk_at "1"
      rw [if_pos trivial]
      exact ⟨c, _, rfl, put, new rfl⟩
    | some v =>
      rw [e] at new same
      rw [if_neg (by simp)]
      have gv := dget_toK (w := m.1) c2
      rw [e] at gv
      refine ⟨_, rfl, _, rfl, c, .int v, rfl, gv, ?_⟩
      walk_at "1"
      by_cases lt : k + m.2 < v
      · rw [if_pos lt]
        simp only [lt, if_true] at new
        exact ⟨c, _, rfl, put, new trivial⟩
      · rw [if_neg lt]
        simp only [lt, if_false] at same
        exact same trivial
  · rintro τ H2 ⟨cs', o4, o6, o7, rfl, c2, o2, dj⟩
    rw [List.length_map, t2, List.take_length] at dj
    exact q cs' _ _ _ H2 ((Same.off s1).trans o2) c2 (dj.leave fun x p g => (mem_next ul u3).mpr g)
include F in
theorem read__law_far (h : sp__law_far K vs H Q E) : t__law_far K E { nx := fun _ H' => Q .non H', rt := Q } (start ["_law_rows_here", "_law_start_now", "_law_cost", "_law_done", "_law_word_here", "_law_near", "_law_price_here", "_law_amount"] vs) H := by
  match vs, h with
  | [_, _], ⟨L, rows, s, rfl, hL, h5, h6, hP, rfl, hsl, hs3, q⟩ =>
    unfold t__law_far
    walk_at "s"
    simp only [tAsg, tTup, tCons, tNil, tDisp, tPairs, tDNewK]
    walk_at "1"
    refine fun c nc => ?_
    refine ⟨upd_same, [((.inr (wd s) : Key), V.int 0)], rfl, by show 1 ≤ 15; decide, fun d nd => ?_⟩
    have e0 : upd (upd H c (.dK [])) c (.dK (mergeK [] [((.inr (wd s) : Key), V.int 0)])) = upd H c (.dK ([(s, 0)].map toK)) := by
      rw [upd_upd]
      rfl
    rw [e0] at nd ⊢
    have s1 : Same H (upd H c (.dK ([(s, 0)].map toK))) := same_new nc
    have gc : upd H c (.dK ([(s, 0)].map toK)) c = some (.dK ([((s, 0) : List Nat × Int)].map toK)) := upd_same
    generalize upd H c (.dK ([(s, 0)].map toK)) = H1 at *
    have ne : c ≠ d := by rintro rfl; rw [gc] at nd; cases nd
    have s2 : Same H1 (upd H1 d (.dK [])) := same_new nd
    have gd : upd H1 d (.dK []) d = some (.dK (([] : Cst).map toK)) := upd_same
    have gc := s2 _ _ gc
    have nd0 : H d = none := s1.free nd
    generalize upd H1 d (.dK []) = H2 at *
    have s2 := s1.trans s2
    refine ⟨by decide, fun T nT => ?_⟩
    have sT : Same H2 (upd H2 T (.tup [.ref c, .ref d])) := same_new nT
    have gT : upd H2 T (.tup [.ref c, .ref d]) T = some (.tup [.ref c, .ref d]) := upd_same
    have gc := sT _ _ gc
    have gd := sT _ _ gd
    have s2 := s2.trans sT
    generalize upd H2 T (.tup [.ref c, .ref d]) = H2 at *
    refine ⟨T, _, rfl, .inl (.inl gT), rfl, ?_⟩
    refine ⟨_, _, rfl, _, _, rfl, rfl, ?_⟩
    simp only [List.set_cons_zero, List.set_cons_succ]
    walk_at "s"
    simp only [tWhile]
    refine ⟨fun m τ H' => ∃ (cs ds : Cst) (o4 o5 o6 o7 : Option V), m = 3 ^ rows.length - ds.length ∧ τ = [some (.ref L), some (.str (wd s)), some (.ref c), some (.ref d), o4, o5, o6, o7] ∧ H' c = some (.dK (cs.map toK)) ∧ H' d = some (.dK (ds.map toK)) ∧ Same H H' ∧ Dij rows s cs ds,
      ⟨_, [(s, 0)], [], _, _, _, _, rfl, rfl, gc, gd, s2, Dij.start⟩, ?_⟩
    rintro m τ H3 ⟨cs, ds, o4, o5, o6, o7, rfl, rfl, c3, d3, s3, dj⟩
    have few := dj.few hs3
    rw [hsl] at few
    have few2 : cs.length ≤ 243 := Nat.le_trans few (pow3_le h5)
    walk_at "1"
    refine ⟨d, _, rfl, d3, c, _, rfl, c3, ?_⟩
    walk_at "1"
    by_cases lt : ds.length < cs.length
    · rw [if_pos (by simpa using lt)]
      have lt3 : ds.length < 3 ^ rows.length := Nat.lt_of_lt_of_le lt few
      refine ⟨fun τ H' => ∃ (cs2 ds2 : Cst) (o4 o5 o6 o7 : Option V), ds2.length = ds.length + 1 ∧ τ = [some (.ref L), some (.str (wd s)), some (.ref c), some (.ref d), o4, o5, o6, o7] ∧ H' c = some (.dK (cs2.map toK)) ∧ H' d = some (.dK (ds2.map toK)) ∧ Same H H' ∧ Dij rows s cs2 ds2, ?_, ?_⟩
      · rintro τ H' ⟨cs2, ds2, p4, p5, p6, p7, hl2, rfl, z1, z2, z3, z4⟩
        exact ⟨3 ^ rows.length - ds2.length, by omega, cs2, ds2, _, _, _, _, rfl, rfl, z1, z2, z3, z4⟩
      · walk_at "s"
        refine far_near c3 d3 ne (by omega) dj.kn (dj.left lt) fun u k H4 s4 hu hn least => ?_
        walk_at "s"
        simp only [tDGet]
        walk_at "1"
        have gu := dget_toK (w := u) (s4 _ _ c3)
        rw [hu] at gu
        refine ⟨_, rfl, _, rfl, c, .int k, rfl, gu, ?_⟩
        have put : DPut H4 d (.str (wd u)) (.int k) (upd H4 d (.dK ((putC ds u k).map toK))) := dput_toK (s4 _ _ d3) (by omega)
        walk_at "1"
        refine ⟨d, _, rfl, put, ?_⟩
        have ent := dj.enter hu hn least
        have c5 : upd H4 d (.dK ((putC ds u k).map toK)) c = some (.dK (cs.map toK)) := by rw [upd_ne ne]; exact s4 _ _ c3
        have d5 : upd H4 d (.dK ((putC ds u k).map toK)) d = some (.dK ((putC ds u k).map toK)) := upd_same
        have s5 : Same H (upd H4 d (.dK ((putC ds u k).map toK))) := (Off.trans (Same.off (s3.trans s4)) off_upd).same nd0
        generalize upd H4 d (.dK ((putC ds u k).map toK)) = H5 at *
        refine far_moves (hL.same s5) h5 h6 hP hsl hs3 c5 d5 ne ent fun cs' y4 y6 y7 H6 o6 c6 dj' => ?_
        refine ⟨cs', putC ds u k, _, _, _, _, ?_, rfl, c6, o6 _ _ ne.symm d5, (Off.trans (Same.off s5) o6).same nc, dj'⟩
        rw [putC_new k hn, List.length_append]
        rfl
    · rw [if_neg (by simpa using lt)]
      exact q d H3 ds s3 nd0 d3 (dj.done (by omega) hP)
end
end U
namespace U
open PySem PySem.Spec PyProof.Rows L2

def sp__law_word (_K : PySem.W.Frag) : Sp := sp2 fun x y H Q _ => ∃ (b : Addr) (m : Int) (n : Nat), x = .ref b ∧ y = .int n ∧ n ≤ 60 ∧ Bx H b m ∧ m ≤ 1000000 ∧ ∀ ds H', ds.length = n → D3 ds → Off b H H' → Bx H' b (m + 60) → Q (.str (wd ds)) H'
def sp__law_all (_K : PySem.W.Frag) : Sp := sp1 fun x H Q _ => ∃ n : Nat, x = .int n ∧ n ≤ 5 ∧ ∀ (l : Addr) (ws : List (List Nat)) (H' : Hp), Same H H' → H' l = some (.lst (ws.map fun w => V.str (wd w))) → (∀ w ∈ ws, w.length = n ∧ D3 w) → ws.length ≤ 300 → Q (.ref l) H'
def t__law_word (K : PySem.W.Frag) (E : XK) : TS := (tRet (tJoin K (tC (.str "")) (tLc (iRng1 (tCons (tVar 1) tNil)) (gName 2) tYes (tOp (uIx K) (tC (.str "abc")) (tFn (sp__law_take K) E0 (tCons (tVar 0) (tCons (tC (.int 3)) tNil)))) [2])))
def t__law_all (K : PySem.W.Frag) (E : XK) : TS := (tSeq (tAsg (tLst (tCons (tC (.str "")) tNil)) (gName 1)) (tSeq (tFor (iRng1 (tCons (tVar 0) tNil)) (gName 2) (tSeq (tAsg (tLst tNil) (gName 3)) (tSeq (tFor (iSeq K (tVar 1)) (gName 4) (tAsg (tOp uAdd (tVar 3) (tLc (iStr (tC (.str "abc"))) (gName 5) tYes (tOp uAdd (tVar 4) (tVar 5)) [5])) (gName 3))) (tAsg (tVar 3) (gName 1))))) (tRet (tVar 1))))
theorem join_pl (ds : List Nat) : Txt.join "" (ds.map pl) = wd ds := by
  have key : ∀ (l : List Nat) (acc : Array Nat), ((l.map pl).foldl (fun acc p => acc ++ ("" : Str).cps ++ p.cps) acc).toList = acc.toList ++ l.map (97 + ·) := by
    intro l
    induction l with
    | nil => intro acc; simp
    | cons a l ih =>
      intro acc
      rw [List.map_cons, List.foldl_cons, ih]
      have e0 : ("" : Str).cps = #[] := by decide
      simp [pl, e0]
  have ext : ∀ a b : Str, a.cps.toList = b.cps.toList → a = b := fun a b h => by
    obtain ⟨a⟩ := a
    obtain ⟨b⟩ := b
    exact congrArg Str.mk (Array.toList_inj.mp h)
  apply ext
  cases ds with
  | nil => rfl
  | cons a l =>
    show (((l.map pl).foldl (fun acc p => acc ++ ("" : Str).cps ++ p.cps) (pl a).cps)).toList = _
    rw [key]
    simp [pl, wd]
theorem cat_of {p r : Addr} {xs ys : List V} {H : Hp} {Q : VK} (h1 : H p = some (.lst xs)) (h2 : H r = some (.lst ys)) (hl : xs.length + ys.length ≤ 1000) (q : ∀ l H', H l = none → Same H H' → H' l = some (.lst (xs ++ ys)) → Q (.ref l) H') : uAdd (.ref p) (.ref r) H Q :=
  ⟨p, r, xs, ys, rfl, rfl, h1, h2, Nat.le_trans hl (by decide), fun l nl => q l _ nl (same_new nl) (by exact upd_same)⟩
section
variable {K : PySem.W.Frag} (F : KF K) {vs : List V} {H : Hp} {Q : VK} {E : XK}
local macro_rules | `(tactic| walk_at "w") => `(tactic| try simp only [turnE, lcT, Snoc, tRet, tRetN, tAndV, tOrV, tNotV, tCB, tCons, tVar, tNil, tC, tOp, tSeq, tAsg, gName, gSub, tIfS, tDrop, tFn, tTup, tLst, tNext, tB, tTest, tNot, tAnd, tOr, tIf, tChain, tUn, rU, tFld, tPart, tNoPart, L2.tSl, tBM, tPar, tPar3, tTruth, tDNewK,
  L2.start, List.map_cons, List.map_nil, List.length_cons, List.length_nil, List.replicate_succ, List.replicate_zero, List.append_nil, List.nil_append, List.cons_append, List.singleton_append, Nat.sub_self, Nat.zero_add, Nat.reduceAdd, Nat.reduceSub,
  List.getElem?_cons_zero, List.getElem?_cons_succ, List.set_cons_zero, List.set_cons_succ, Option.some.injEq, exists_eq_left, exists_eq_left', V.int.injEq, V.bl.injEq, V.str.injEq, V.ref.injEq,
  uAdd_int, uAdd_str, uSub_int, uMul_int, uMul_str, uDiv_int, uMod_int, uPow_int, uLt_int, uLe_int, uGt_int, uGe_int, uIs_non, uNis_non, uIs_bl, uNis_bl, sp1, sp2, sp3, sp4, uEq_int, uEq_str, uNe_int, uNe_str, uSl_str, uLen_str, decide_eq_true_eq])
local macro_rules | `(tactic| walk_at "1") => `(tactic| try simp only [turnE, lcT, Snoc, tRet, tRetN, tAndV, tOrV, tNotV, tCB, tCons, tVar, tNil, tC, tOp, tAsg, gName, gSub, tIfS, tDrop, tFn, tTup, tLst, tNext, tB, tTest, tNot, tAnd, tOr, tIf, tChain, tUn, rU, tFld, tPart, tNoPart, L2.tSl, tBM, tPar, tPar3, tTruth, tDNewK,
  L2.start, List.map_cons, List.map_nil, List.length_cons, List.length_nil, List.replicate_succ, List.replicate_zero, List.append_nil, List.nil_append, List.cons_append, List.singleton_append, Nat.sub_self, Nat.zero_add, Nat.reduceAdd, Nat.reduceSub,
  List.getElem?_cons_zero, List.getElem?_cons_succ, List.set_cons_zero, List.set_cons_succ, Option.some.injEq, exists_eq_left, exists_eq_left', V.int.injEq, V.bl.injEq, V.str.injEq, V.ref.injEq,
  uAdd_int, uAdd_str, uSub_int, uMul_int, uMul_str, uDiv_int, uMod_int, uPow_int, uLt_int, uLe_int, uGt_int, uGe_int, uIs_non, uNis_non, uIs_bl, uNis_bl, sp1, sp2, sp3, sp4, uEq_int, uEq_str, uNe_int, uNe_str, uSl_str, uLen_str, decide_eq_true_eq])
local macro_rules | `(tactic| walk_at "s") => `(tactic| ((try dsimp only [turnE]); with_reducible refine seq_ ?_))

include F in
theorem read__law_word (h : sp__law_word K vs H Q E) : t__law_word K E { nx := fun _ H' => Q .non H', rt := Q } (start ["_law_bag_here", "_law_count", "_law_crate"] vs) H := by
  match vs, h with
  | [_, _], ⟨b, m, n, rfl, rfl, hn, hb, hm, q⟩ =>
    unfold t__law_word sp__law_take
    simp only [tRet, tJoin, tM1, tC]
    refine ⟨⟨_, rfl⟩, ?_⟩
    refine tLc_rng1 (n := n) (fun R r => by
      walk_at "w"
      exact r) (by omega) fun D hD => ?_
    obtain ⟨l0, hb0⟩ := hb.at_
    have hDb : D ≠ b := by rintro rfl; rw [hD] at hb0; cases hb0
    refine lc_plain plain_R (fun i H' => ∃ ds, ds.length = i ∧ D3 ds ∧ H' D = some (.lst (ds.map fun d => V.str (pl d))) ∧ Bx H' b (m + i) ∧ Off b H H') ⟨[], rfl, (fun d z => nomatch z), upd_same, (hb.same (same_new hD)).mono (by omega), Same.off (same_new hD)⟩ (fun _ _ _ => trivial) ?_ ?_
    · rintro i x H1 hx ⟨ds, h1, h2, h3, h4, h5⟩
      have lt : i < n := by have := (List.getElem?_eq_some_iff.mp hx).1; simpa [intsL] using this
      simp only [lcT, wipe]
      walk_at "w"
      refine ⟨trivial, ?_⟩
      simp only [tYes, if_true]
      walk_at "w"
      refine ⟨b, m + i, 3, rfl, rfl, by omega, by omega, h4, by omega, fun d H2 d0 d1 o2 b2 => ?_⟩
      refine abc_at d0 d1 ⟨_, o2.lst h3 hDb, ?_, ds ++ [d.toNat], ?_, ?_, ?_, ?_, ?_⟩
      · rw [List.length_map, h1]
        exact Nat.lt_of_lt_of_le (show _ < 61 by omega) (by decide)
      · simp [h1]
      · intro e m
        rcases List.mem_append.mp m with m | m
        · exact h2 e m
        · have := List.mem_singleton.mp m
          omega
      · rw [upd_same]
        simp
      · exact Bx.upd (b2.mono (by omega)) hDb
      · exact Off.new (h5.trans o2) hD
    · rintro H1 ⟨ds, h1, h2, h3, h4, h5⟩
      have hl : (intsL 0 n).length = n := by simp [intsL]
      rw [hl] at h1 h4
      refine ⟨_, D, ds.map pl, rfl, rfl, .inl (.inl (.inl ?_)), ?_, ?_⟩
      · rw [h3, List.map_map]
        rfl
      · have : ∀ l : List Nat, ((l.map pl).map (·.length)).sum = l.length := by
          intro l
          induction l with
          | nil => rfl
          | cons a l ih => simp only [List.map_cons, List.sum_cons, ih, List.length_cons]; show 1 + _ = _; omega
        rw [this, List.length_map, h1]
        show n + n * 0 ≤ _
        omega
      · rw [join_pl]
        exact q ds H1 h1 h2 h5 (h4.mono (by omega))
/-- the three longer words -/
theorem longer {w : List Nat} {x0 x1 x2 x5 : Option V} {z : Addr} {us : List (List Nat)} {D : Ends} (hw : w.length ≤ 5) (hz : H z = some (.lst (us.map fun w => V.str (wd w)))) (hu : us.length ≤ 900) (q : ∀ l H', Same H H' → H' l = some (.lst ((us ++ [0, 1, 2].map fun d => w ++ [d]).map fun w => V.str (wd w))) → D.nx [x0, x1, x2, some (.ref l), some (.str (wd w)), x5] H') :
    (tAsg (tOp uAdd (tVar 3) (tLc (iStr (tC (.str "abc"))) (gName 5) tYes (tOp uAdd (tVar 4) (tVar 5)) [5])) (gName 3)) D [x0, x1, x2, some (.ref z), some (.str (wd w)), x5] H := by
  walk_at "1"
  refine (show tLc (iStr (tC (V.str "abc"))) (gName 5) tYes (tOp uAdd (tVar 4) (tVar 5)) [5] _ H _ from ?_)
  refine tLc_str (z := "abc") (fun Q => rfl) fun C nC => ?_
  refine lc_plain plain_S (fun i H' => Same H H' ∧ H' C = some (.lst (([0, 1, 2].take i).map fun d => V.str (wd (w ++ [d]))))) ⟨same_new nC, upd_same⟩ (fun _ _ _ => trivial) ?_ ?_
  · rintro i x H2 hx ⟨s2, gC⟩
    rw [abc_wd, strL_wd, List.getElem?_map] at hx
    obtain ⟨p, hp, rfl⟩ := Option.map_eq_some_iff.mp hx
    have tk : [0, 1, 2].take (i + 1) = [0, 1, 2].take i ++ [p] := by rw [List.take_succ, hp]; rfl
    refine ⟨by simp only [wipe, List.set_cons_succ, List.set_cons_zero], ?_⟩
    simp only [wipe, List.set_cons_zero, List.set_cons_succ]
    walk_at "1"
    simp only [tYes, if_true]
    refine ⟨by rw [wd_length, ← wd_pl, wd_length]; show w.length + 1 ≤ sizeLine; exact Nat.le_trans (show w.length + 1 ≤ 6 by omega) (by decide), ?_⟩
    refine ⟨_, gC, ?_, (Off.trans (Same.off s2) off_upd).same nC, ?_⟩
    · rw [List.length_map]
      exact Nat.lt_of_le_of_lt (List.length_take_le' _ _) (by decide)
    · rw [upd_same, tk, List.map_append, ← wd_pl, wd_app]
      rfl
  · rintro H2 ⟨s2, gC⟩
    refine cat_of (s2 _ _ hz) gC (by rw [List.length_map, List.length_map]; show us.length + 3 ≤ 1000; omega) fun l H3 _ s3 g3 => ?_
    refine q l H3 (s2.trans s3) ?_
    rw [g3, List.map_append]
    rfl
include F in
theorem read__law_all (h : sp__law_all K vs H Q E) : t__law_all K E { nx := fun _ H' => Q .non H', rt := Q } (start ["_law_count", "_law_found", "_law_crate", "_law_longer", "_law_word_here", "_law_place"] vs) H := by
  match vs, h with
  | [_], ⟨n, rfl, hn, q⟩ =>
    unfold t__law_all
    walk_at "s"
    walk_at "1"
    refine ⟨by decide, fun l nl => ?_⟩
    have s1 : Same H (upd H l (.lst [.str ""])) := same_new nl
    have gl : upd H l (.lst [.str ""]) l = some (.lst [.str ""]) := upd_same
    generalize upd H l (.lst [.str ""]) = H1 at *
    walk_at "s"
    refine for_rng1 (n := n) (fun R r => by
      walk_at "1"
      exact r) (by omega) (fun i σ H' => Same H H' ∧ ∃ (l : Addr) (ws : List (List Nat)) (o2 o3 o4 o5 : Option V), σ = [some (.int n), some (.ref l), o2, o3, o4, o5] ∧ H' l = some (.lst (ws.map fun w => V.str (wd w))) ∧ (∀ w ∈ ws, w.length = i ∧ D3 w) ∧ ws.length = 3 ^ i)
      ⟨s1, l, [[]], _, _, _, _, rfl, gl, fun w m => by rw [List.mem_singleton.mp m]; exact ⟨rfl, fun _ z => nomatch z⟩, rfl⟩ ?_ ?_
    · rintro i σ H2 hi ⟨s2, l2, ws, o2, o3, o4, o5, rfl, g2, ok, hl⟩
      have l3 : ws.length ≤ 81 := hl ▸ Nat.pow_le_pow_right (by decide) (show i ≤ 4 by omega)
      simp only [gName, List.set_cons_zero, List.set_cons_succ]
      walk_at "s"
      walk_at "1"
      refine ⟨by decide, fun z nz => ?_⟩
      have s3 : Same H2 (upd H2 z (.lst [])) := same_new nz
      have gz : upd H2 z (.lst []) z = some (.lst []) := upd_same
      generalize upd H2 z (.lst []) = H3 at *
      walk_at "s"
      refine for_seqA (H0 := H3) (p := l2) (xs := ws.map fun w => V.str (wd w)) (.inl (.inl (.inl (s3 _ _ g2)))) (fun R r => by
        walk_at "1"
        exact r)
        (fun k τ H' => Same H3 H' ∧ ∃ (z : Addr) (us : List (List Nat)) (o4 o5 : Option V), τ = [some (.int n), some (.ref l2), some (.int i), some (.ref z), o4, o5] ∧ H' z = some (.lst (us.map fun w => V.str (wd w))) ∧ (∀ w ∈ us, w.length = i + 1 ∧ D3 w) ∧ us.length = k * 3)
        ⟨Same.refl _, z, [], _, _, rfl, gz, (fun _ m => nomatch m), rfl⟩ (fun k τ H' h => h.1) ?_ ?_
      · rintro k x τ H4 hx ⟨s4, z4, us, p4, p5, rfl, g4, okk, lk⟩
        rw [List.getElem?_map] at hx
        obtain ⟨w, hw, rfl⟩ := Option.map_eq_some_iff.mp hx
        have kl : k < ws.length := (List.getElem?_eq_some_iff.mp hw).1
        obtain ⟨w1, w2⟩ := ok w (List.mem_of_getElem? hw)
        simp only [gName, List.set_cons_zero, List.set_cons_succ]
        refine longer (by omega) g4 (by omega) fun l5 H5 s5 g5 => ?_
        refine ⟨s4.trans s5, l5, _, _, _, rfl, g5, ?_, by rw [List.length_append, lk]; show k * 3 + 3 = _; omega⟩
        intro v m
        rcases List.mem_append.mp m with m | m
        · exact okk v m
        · obtain ⟨d, md, rfl⟩ := List.mem_map.mp m
          refine ⟨by rw [List.length_append, w1]; rfl, fun e me => ?_⟩
          rcases List.mem_append.mp me with me | me
          · exact w2 e me
          · rw [List.mem_singleton.mp me]
            simp at md
            omega
      · rintro τ H4 ⟨s4, z4, us, p4, p5, rfl, g4, okk, lk⟩
        walk_at "1"
        refine ⟨(s2.trans s3).trans s4, z4, us, _, _, _, _, rfl, g4, okk, ?_⟩
        rw [lk, List.length_map, hl, Nat.pow_succ]
    · rintro σ H2 ⟨s2, l2, ws, o2, o3, o4, o5, rfl, g2, ok, hl⟩
      walk_at "1"
      refine q l2 ws H2 s2 g2 ok ?_
      rw [hl]
      exact Nat.le_trans (Nat.pow_le_pow_right (by decide) hn) (by decide)
end
end U
namespace U
open PySem PySem.Spec PyProof.Rows L2

def t__law_right (K : PySem.W.Frag) (E : XK) : TS := (tSeq (tAsg (tFn (sp__law_rows K) E (tCons (tVar 0) (tCons (tOp uAdd (tC (.int 4)) (tCB rInt (tCons (tOp (uEq K) (tFn (sp__law_take K) E (tCons (tVar 0) (tCons (tC (.int 12)) tNil))) (tC (.int 0))) tNil))) tNil))) (gName 1)) (tSeq (tAsg (tTup (tCons (tMake (He.ga K "Yard") (sp_Yard_init K) [] E (tCons (tVar 1) tNil)) (tCons (tFn (sp__law_word K) E (tCons (tVar 0) (tCons (tCB (uLen K) (tCons (tVar 1) tNil)) tNil))) tNil))) (gTup K 2 (gCons (gName 2) (gCons (gName 3) gNil)))) (tSeq (tAsg (tFn (sp__law_far K) E (tCons (tVar 1) (tCons (tVar 3) tNil))) (gName 4)) (tSeq (tFor (iSeq K (tFn (sp__law_all K) E (tCons (tCB (uLen K) (tCons (tVar 1) tNil)) tNil))) (gName 5) (tSeq (tIfS (tTest (tOp (uNe K) (tCB (uRepr K) (tCons (tFn (sp_least K) E (tCons (tVar 2) (tCons (tVar 3) (tCons (tVar 5) tNil)))) tNil)) (tCB (uRepr K) (tCons (tDGet1 (tVar 4) (tVar 5)) tNil)))) (tRet (tC (.bl false))) tNext) (tSeq (tAsg (tLc (iRng1 (tCons (tCB (uLen K) (tCons (tVar 1) tNil)) tNil)) (gName 11) (tTest (tOp (uNe K) (tOp (uIx K) (tVar 5) (tVar 11)) (tOp (uIx K) (tVar 3) (tVar 11)))) (tVar 11) [11]) (gName 6)) (tIfS (tTest (tOp (uNe K) (tFn (sp_largest_moving K) E (tCons (tVar 2) (tCons (tVar 3) (tCons (tVar 5) tNil)))) (tIf (tTest (tOp (uNe K) (tVar 6) (tLst tNil))) (tOp (uIx K) (tVar 6) (tC (.int 0))) (tC .non)))) (tRet (tC (.bl false))) tNext)))) (tSeq (tAsg (tCB (rDictP K) (tCons (tLc (iStr (tC (.str "abc"))) (gName 12) tYes (tTup (tCons (tVar 12) (tCons (tDGet1 (tVar 4) (tOp uMul (tVar 12) (tCB (uLen K) (tCons (tVar 1) tNil)))) tNil))) [12]) tNil)) (gName 7)) (tSeq (tAsg (tFn (sp_to_towers K) E (tCons (tVar 2) (tCons (tVar 3) tNil))) (gName 8)) (tSeq (tIfS (tTest (tOp rNeDK (tVar 8) (tVar 7))) (tRet (tC (.bl false))) tNext) (tSeq (tDrop (tBM0 K "dict" rDClear (tVar 8))) (tSeq (tAsg (tCB (rDictP K) (tCons (tLc (iStr (tC (.str "abc"))) (gName 12) tYes (tTup (tCons (tVar 12) (tCons (tDGet1 (tFn (sp__law_far K) E0 (tCons (tVar 1) (tCons (tOp uMul (tVar 12) (tCB (uLen K) (tCons (tVar 1) tNil))) tNil))) (tVar 3)) tNil))) [12]) tNil)) (gName 9)) (tSeq (tIfS (tOr (tTest (tOp rNeDK (tFn (sp_to_towers K) E (tCons (tVar 2) (tCons (tVar 3) tNil))) (tVar 7))) (tTest (tOp rNeDK (tFn (sp_from_towers K) E (tCons (tVar 2) (tCons (tVar 3) tNil))) (tVar 9)))) (tRet (tC (.bl false))) tNext) (tSeq (tAsg (tFn (sp_from_towers K) E (tCons (tVar 2) (tCons (tVar 3) tNil))) (gName 10)) (tSeq (tAsg (tC (.int 5)) (gSub (tVar 10) (tC (.str "a")) rSetD)) (tSeq (tIfS (tOr (tTest (tOp rNeDK (tFnK 2 (sp_from_towers K) (fun vs zs => kwP [1, 0] vs zs) E (tCons (tVar 3) (tCons (tVar 2) tNil))) (tVar 9))) (tTest (tOp (uNe K) (tFnK 3 (sp_least K) (fun vs zs => kwP [2, 0, 1] vs zs) E (tCons (tVar 3) (tCons (tVar 3) (tCons (tVar 2) tNil)))) (tC (.int 0))))) (tRet (tC (.bl false))) tNext) (tRet (tOp (uEq K) (tMeth (He.ga K "Yard") "rows" (sp_Yard_rows K) [] E (tVar 2) tNil) (tVar 1))))))))))))))))
/-- a list of the rows -/
def LvR (H : Hp) (l : Addr) (ls : List Addr) (rows : LL) : Prop := H l = some (.lst (ls.map V.ref)) ∧ (ls.length = rows.length ∧ ∀ (k : Nat) (d : Addr) (r : List (Option Int)), ls[k]? = some d → rows[k]? = some r → H d = some (.lst (r.map pV)))
/-- whatever is no own object stays -/
def Flt (H H' : Hp) : Prop := ∀ b o, (∀ C dx fs, o ≠ .ins C dx fs) → H b = some o → H' b = some o
theorem Flt.of {H H' : Hp} (e : Same H H') : Flt H H' := fun b o _ z => e b o z
theorem Flt.trans {H H' H2 : Hp} (e : Flt H H') (f : Flt H' H2) : Flt H H2 := fun b o n z => f b o n (e b o n z)
theorem LvR.flt {H H' : Hp} {l : Addr} {ls : List Addr} {rows : LL} (g : LvR H l ls rows) (e : Flt H H') : LvR H' l ls rows :=
  ⟨e _ _ (fun _ _ _ z => nomatch z) g.1, g.2.1, fun k d r z1 z2 => e _ _ (fun _ _ _ z => nomatch z) (g.2.2 k d r z1 z2)⟩
/-- the yard under way -/
structure Ses (K : PySem.W.Frag) (y : Addr) (rows : LL) (H0 H : Hp) : Prop where
  n : H0 y = none
  s : Same H0 H
  k : YdK K H y rows
  r : ∀ a, YdR K H y a → H0 a = none
theorem Ses.mild {K : PySem.W.Frag} {y : Addr} {rows : LL} {H0 H H' : Hp} (h : Ses K y rows H0 H) (m : Mild K y H H') (k : YdK K H' y rows) : Ses K y rows H0 H' := by
  obtain ⟨a, b⟩ := m.2 H0 h.s h.n h.r
  exact ⟨h.n, a, k, b⟩
theorem Ses.same {K : PySem.W.Frag} {y : Addr} {rows : LL} {H0 H H' : Hp} (h : Ses K y rows H0 H) (e : Same H H') : Ses K y rows H0 H' := by
  obtain ⟨_, _, dx, t, rk, gy, _⟩ := id h.k
  exact h.mild (Mild.of_same gy e) (h.k.same e)
section
variable {K : PySem.W.Frag} (F : KF K) {vs : List V} {H H' : Hp} {Q : VK} {E : XK}
local macro_rules | `(tactic| walk_at "w") => `(tactic| try simp only [turnE, lcT, Snoc, tRet, tRetN, tAndV, tOrV, tNotV, tCB, tCons, tVar, tNil, tC, tOp, tSeq, tAsg, gName, gSub, tIfS, tDrop, tFn, tTup, tLst, tNext, tB, tTest, tNot, tAnd, tOr, tIf, tChain, tUn, rU, tFld, tPart, tNoPart, L2.tSl, tBM, tPar, tPar3, tTruth, tDNewK,
  L2.start, List.map_cons, List.map_nil, List.length_cons, List.length_nil, List.replicate_succ, List.replicate_zero, List.append_nil, List.nil_append, List.cons_append, List.singleton_append, Nat.sub_self, Nat.zero_add, Nat.reduceAdd, Nat.reduceSub,
  List.getElem?_cons_zero, List.getElem?_cons_succ, List.set_cons_zero, List.set_cons_succ, Option.some.injEq, exists_eq_left, exists_eq_left', V.int.injEq, V.bl.injEq, V.str.injEq, V.ref.injEq,
  uAdd_int, uAdd_str, uSub_int, uMul_int, uMul_str, uDiv_int, uMod_int, uPow_int, uLt_int, uLe_int, uGt_int, uGe_int, uIs_non, uNis_non, uIs_bl, uNis_bl, sp1, sp2, sp3, sp4, uEq_int, uEq_str, uNe_int, uNe_str, uSl_str, uLen_str, decide_eq_true_eq])
local macro_rules | `(tactic| walk_at "1") => `(tactic| try simp only [turnE, lcT, Snoc, tRet, tRetN, tAndV, tOrV, tNotV, tCB, tCons, tVar, tNil, tC, tOp, tAsg, gName, gSub, tIfS, tDrop, tFn, tTup, tLst, tNext, tB, tTest, tNot, tAnd, tOr, tIf, tChain, tUn, rU, tFld, tPart, tNoPart, L2.tSl, tBM, tPar, tPar3, tTruth, tDNewK,
  L2.start, List.map_cons, List.map_nil, List.length_cons, List.length_nil, List.replicate_succ, List.replicate_zero, List.append_nil, List.nil_append, List.cons_append, List.singleton_append, Nat.sub_self, Nat.zero_add, Nat.reduceAdd, Nat.reduceSub,
  List.getElem?_cons_zero, List.getElem?_cons_succ, List.set_cons_zero, List.set_cons_succ, Option.some.injEq, exists_eq_left, exists_eq_left', V.int.injEq, V.bl.injEq, V.str.injEq, V.ref.injEq,
  uAdd_int, uAdd_str, uSub_int, uMul_int, uMul_str, uDiv_int, uMod_int, uPow_int, uLt_int, uLe_int, uGt_int, uGe_int, uIs_non, uNis_non, uIs_bl, uNis_bl, sp1, sp2, sp3, sp4, uEq_int, uEq_str, uNe_int, uNe_str, uSl_str, uLen_str, decide_eq_true_eq])
local macro_rules | `(tactic| walk_at "s") => `(tactic| ((try dsimp only [turnE]); with_reducible refine seq_ ?_))

def shO : Option Int → Str
  | none => "None"
  | some i => toString i
theorem repr_pV {o : Option Int} (h : ∀ i, o = some i → i.natAbs.log2 < 1920) (q : Q (.str (shO o)) H) : uRepr K [pV o] H Q := by
  cases o with
  | none => exact q
  | some i => exact ⟨h i rfl, q⟩
theorem getD_pV (o : Option Int) : (o.map V.int).getD V.non = pV o := by cases o <;> rfl
theorem log_least {rows : LL} {g : Int} {ds es : List Nat} {i : Int} (hP : PosR rows) (hg : Great rows g) (h5 : rows.length ≤ 5) (hL : Least rows ds es (leastT g rows ds es)) (e : leastT g rows ds es = some i) : i.natAbs.log2 < 1920 := by
  have h0 : 0 ≤ i := (hL.wlk e).nonneg hP
  have h1 : i < g * 4 ^ rows.length := by
    unfold leastT toldV at e
    split at e
    · injection e with e
      rw [← e]
      assumption
    · cases e
  have h2 : g * 4 ^ rows.length ≤ 10 ^ 33 * 4 ^ 5 := by
    have a : (4 : Int) ^ rows.length ≤ 4 ^ 5 := by
      have := Nat.pow_le_pow_right (show 0 < 4 by decide) h5
      exact_mod_cast this
    calc g * 4 ^ rows.length ≤ g * 4 ^ 5 := Int.mul_le_mul_of_nonneg_left a (Int.le_of_lt hg.1)
      _ ≤ 10 ^ 33 * 4 ^ 5 := Int.mul_le_mul_of_nonneg_right (Int.le_of_lt hg.2.1) (by decide)
  have h3 : (10 : Int) ^ 33 * 4 ^ 5 = 1024000000000000000000000000000000000 := by decide
  by_cases z : i.natAbs = 0
  · rw [z]
    decide
  · refine (Nat.log2_lt z).mpr (Nat.lt_of_lt_of_le (show i.natAbs < 2 ^ 200 from ?_) (Nat.pow_le_pow_right (by decide) (by decide)))
    have : (2 : Nat) ^ 200 = 1606938044258990275541962092341162602522202993782792835301376 := by decide
    rw [this]
    omega
theorem any_least {y c : Addr} {cs : Cst} {rows : LL} {ds es : List Nat} {H0 : Hp} {x0 x1 x6 x7 x8 x9 x10 x11 x12 : Option V} {D : Ends} (hS : Ses K y rows H0 H) (hP : PosR rows) (h6 : ∀ r ∈ rows, r.length = 6) (h5 : rows.length ≤ 5)
    (hl : ds.length = rows.length) (h3 : D3 ds) (el : es.length = rows.length) (e3 : D3 es) (hc : H c = some (.dK (cs.map toK))) (hcs : ∀ x, Least rows ds x (getC cs x))
    (q : ∀ H', Ses K y rows H0 H' → Flt H H' → D.nx [x0, x1, some (.ref y), some (.str (wd ds)), some (.ref c), some (.str (wd es)), x6, x7, x8, x9, x10, x11, x12] H') :
    (tIfS (tTest (tOp (uNe K) (tCB (uRepr K) (tCons (tFn (sp_least K) E (tCons (tVar 2) (tCons (tVar 3) (tCons (tVar 5) tNil)))) tNil)) (tCB (uRepr K) (tCons (tDGet1 (tVar 4) (tVar 5)) tNil)))) (tRet (tC (.bl false))) tNext) D [x0, x1, some (.ref y), some (.str (wd ds)), some (.ref c), some (.str (wd es)), x6, x7, x8, x9, x10, x11, x12] H := by
  walk_at "1"
  refine ⟨y, rows, ds, es, rfl, hS.k, ⟨rfl, hl, h3⟩, ⟨rfl, el, e3⟩, fun g H1 hg m1 k1 => ?_⟩
  have hL := least_least hP hg h6 hl el h3 e3
  have e := hL.uniq (hcs es)
  refine repr_pV (fun i z => log_least hP hg h5 hL z) ?_
  simp only [tDGet1]
  walk_at "1"
  have gc : H1 c = some (.dK (cs.map toK)) := m1.1 _ _ (fun _ _ _ z => nomatch z) hc
  refine ⟨.inl ⟨_, .inl gc⟩, _, dget_toK gc, ?_⟩
  rw [getD_pV, ← e]
  refine repr_pV (fun i z => log_least hP hg h5 hL z) ?_
  walk_at "1"
  exact q H1 (hS.mild m1 k1) m1.1
/-- the places that are unlike -/
def unl (ds es : List Nat) : List Nat := (List.range ds.length).filter fun k => decide (ds[k]? ≠ es[k]?)
theorem unl_head (ds es : List Nat) : (unl ds es).head? = firstA ds es := List.head?_filter ..
theorem any_unlike {L : Addr} {as : List Addr} {rows : LL} {ds es : List Nat} {x0 x2 x4 x6 x7 x8 x9 x10 x11 x12 : Option V} {D : Ends} (hR : LvR H L as rows) (h5 : rows.length ≤ 5)
    (hl : ds.length = rows.length) (h3 : D3 ds) (el : es.length = rows.length) (e3 : D3 es)
    (q : ∀ u H', Same H H' → H' u = some (.lst (((unl ds es).map Int.ofNat).map V.int)) → D.nx [x0, some (.ref L), x2, some (.str (wd ds)), x4, some (.str (wd es)), some (.ref u), x7, x8, x9, x10, x11, x12] H') :
    (tAsg (tLc (iRng1 (tCons (tCB (uLen K) (tCons (tVar 1) tNil)) tNil)) (gName 11) (tTest (tOp (uNe K) (tOp (uIx K) (tVar 5) (tVar 11)) (tOp (uIx K) (tVar 3) (tVar 11)))) (tVar 11) [11]) (gName 6)) D [x0, some (.ref L), x2, some (.str (wd ds)), x4, some (.str (wd es)), x6, x7, x8, x9, x10, x11, x12] H := by
  walk_at "1"
  refine tLc_rng1 (n := rows.length) (fun R r => by
    walk_at "w"
    refine uLen_seq (.inl (.inl (.inl hR.1))) ?_
    rw [List.length_map, hR.2.1]
    exact r) (by omega) fun C nC => ?_
  refine lc_plain plain_R (fun i H' => Same H H' ∧ H' C = some (.lst ((((List.range i).filter fun k => decide (ds[k]? ≠ es[k]?)).map Int.ofNat).map V.int))) ⟨same_new nC, upd_same⟩ (fun _ _ _ => trivial) ?_ ?_
  · rintro i x H2 hx ⟨s2, gC⟩
    have lt : i < rows.length := by have := (List.getElem?_eq_some_iff.mp hx).1; simpa [intsL] using this
    have hx : x = .int (i : Nat) := by
      simp [intsL, lt] at hx
      exact hx.symm
    subst hx
    refine ⟨by simp only [wipe, List.set_cons_succ, List.set_cons_zero], ?_⟩
    simp only [wipe, List.set_cons_zero, List.set_cons_succ]
    walk_at "1"
    refine str_at2 (ds := es) (k := i) (by omega) (by omega) ?_
    refine str_at2 (ds := ds) (k := i) (by omega) (by omega) ?_
    rw [uNe_str]
    refine ⟨_, rfl, ?_⟩
    have ed : ds[i]? = some (ds[i]'(by omega)) := List.getElem?_eq_getElem _
    have ee : es[i]? = some (es[i]'(by omega)) := List.getElem?_eq_getElem _
    have iff_ : (pl (es[i]?.getD 0) = pl (ds[i]?.getD 0)) ↔ ¬ (ds[i]? ≠ es[i]?) := by
      rw [ed, ee]
      constructor
      · intro z w
        exact w (congrArg some (pl_inj z).symm)
      · intro z
        have z : some (ds[i]'(by omega)) = some (es[i]'(by omega)) := Decidable.not_not.mp z
        injection z with z
        show pl _ = pl _
        rw [z]
    rw [List.range_succ, List.filter_append, List.filter_cons]
    by_cases e : ds[i]? ≠ es[i]?
    · rw [decide_eq_false (fun z => iff_.mp z e), if_pos (by rfl), decide_eq_true e]
      refine ⟨_, gC, ?_, (Off.trans (Same.off s2) off_upd).same nC, ?_⟩
      · rw [List.length_map, List.length_map]
        refine Nat.lt_of_le_of_lt (List.length_filter_le _ _) ?_
        rw [List.length_range]
        exact Nat.lt_of_lt_of_le (show i < 5 by omega) (by decide)
      · rw [upd_same]
        simp
    · rw [decide_eq_true (iff_.mpr e), if_neg (by decide), decide_eq_false e]
      refine ⟨s2, ?_⟩
      simpa using gC
  · rintro H2 ⟨s2, gC⟩
    refine q C H2 s2 ?_
    rw [gC]
    unfold unl
    rw [hl]
    simp [intsL]
theorem any_largest {y u : Addr} {rows : LL} {ds es : List Nat} {H0 : Hp} {x0 x1 x4 x7 x8 x9 x10 x11 x12 : Option V} {D : Ends} (hS : Ses K y rows H0 H)
    (hl : ds.length = rows.length) (h3 : D3 ds) (el : es.length = rows.length) (e3 : D3 es) (gu : H u = some (.lst (((unl ds es).map Int.ofNat).map V.int)))
    (q : ∀ H', Ses K y rows H0 H' → Same H H' → D.nx [x0, x1, some (.ref y), some (.str (wd ds)), x4, some (.str (wd es)), some (.ref u), x7, x8, x9, x10, x11, x12] H') :
    (tIfS (tTest (tOp (uNe K) (tFn (sp_largest_moving K) E (tCons (tVar 2) (tCons (tVar 3) (tCons (tVar 5) tNil)))) (tIf (tTest (tOp (uNe K) (tVar 6) (tLst tNil))) (tOp (uIx K) (tVar 6) (tC (.int 0))) (tC .non)))) (tRet (tC (.bl false))) tNext) D [x0, x1, some (.ref y), some (.str (wd ds)), x4, some (.str (wd es)), some (.ref u), x7, x8, x9, x10, x11, x12] H := by
  walk_at "1"
  refine ⟨y, rows, ds, es, rfl, hS.k.1, ⟨rfl, hl, h3⟩, ⟨rfl, el, e3⟩, fun H1 s1 => ?_⟩
  have gu1 := s1 _ _ gu
  walk_at "1"
  refine ⟨by decide, fun p np => ?_⟩
  have s2 : Same H1 (upd H1 p (.lst [])) := same_new np
  have gp : upd H1 p (.lst []) p = some (.lst (([] : List Int).map V.int)) := upd_same
  generalize upd H1 p (.lst []) = H2 at *
  have fin : ∀ {Q : VK}, Q (.bl false) H2 → uNe K (crV (firstA ds es)) (crV (firstA ds es)) H2 Q := fun {Q} k => by
    cases firstA ds es with
    | none => exact ⟨rfl, k⟩
    | some i =>
      show Q (.bl (!decide ((i : Int) = (i : Int)))) H2
      rw [decide_eq_true rfl]
      exact k
  have gu2 := s2 _ _ gu1
  refine ne_ints (.inl (.inl gu2)) (.inl (.inl gp)) ⟨_, rfl, ?_⟩
  have hd := unl_head ds es
  cases hu : unl ds es with
  | nil =>
    rw [hu] at hd
    rw [if_neg (by simp)]
    rw [← hd] at fin ⊢
    refine fin ⟨_, rfl, ?_⟩
    rw [if_neg (by decide)]
    exact q H2 ((hS.same s1).same s2) (s1.trans s2)
  | cons a r =>
    rw [hu] at hd gu2
    rw [if_pos (by simp)]
    refine ⟨_, _, .inl (.inl (.inl gu2)), at_nat (k := 0) (v := .int (a : Int)) rfl, ?_⟩
    rw [← hd] at fin ⊢
    refine fin ⟨_, rfl, ?_⟩
    rw [if_neg (by decide)]
    exact q H2 ((hS.same s1).same s2) (s1.trans s2)
end
end U
namespace U
open PySem PySem.Spec PyProof.Rows L2

theorem merge_pl (f : Nat → Option Int) : mergeK [] (plD f) = plD f := by
  show mergeK [] [((.inr (pl 0) : Key), pV (f 0)), (.inr (pl 1), pV (f 1)), (.inr (pl 2), pV (f 2))] = _
  rfl
theorem plD_congr {f g : Nat → Option Int} (h : ∀ i, i < 3 → f i = g i) : plD f = plD g := by
  show [((.inr (pl 0) : Key), pV (f 0)), (.inr (pl 1), pV (f 1)), (.inr (pl 2), pV (f 2))] = [((.inr (pl 0) : Key), pV (g 0)), (.inr (pl 1), pV (g 1)), (.inr (pl 2), pV (g 2))]
  rw [h 0 (by decide), h 1 (by decide), h 2 (by decide)]
theorem plD_flat (f : Nat → Option Int) : ∀ p ∈ plD f, flatPI p.2 = true := by
  intro p m
  obtain ⟨w, _, rfl⟩ := List.mem_map.mp m
  show flatPI (pV (f w)) = true
  cases f w <;> rfl
theorem plD_nodup (f : Nat → Option Int) : ((plD f).map (·.1)).Nodup := by
  show ([.inr (pl 0), .inr (pl 1), .inr (pl 2)] : List Key).Nodup
  decide +kernel
section
variable {K : PySem.W.Frag} (F : KF K) {vs : List V} {H H' : Hp} {Q : VK} {E : XK}
theorem pl_alike {a b : Addr} {f : Nat → Option Int} (h : H a = some (.dK (plD f))) (g : H b = some (.dK (plD f))) (q : Q (.bl false) H) : rNeDK (.ref a) (.ref b) H Q :=
  ⟨a, b, _, rfl, rfl, h, g, plD_flat f, plD_nodup f, q⟩
local macro_rules | `(tactic| walk_at "w") => `(tactic| try simp only [turnE, lcT, Snoc, tRet, tRetN, tAndV, tOrV, tNotV, tCB, tCons, tVar, tNil, tC, tOp, tSeq, tAsg, gName, gSub, tIfS, tDrop, tFn, tTup, tLst, tNext, tB, tTest, tNot, tAnd, tOr, tIf, tChain, tUn, rU, tFld, tPart, tNoPart, L2.tSl, tBM, tPar, tPar3, tTruth, tDNewK,
  L2.start, List.map_cons, List.map_nil, List.length_cons, List.length_nil, List.replicate_succ, List.replicate_zero, List.append_nil, List.nil_append, List.cons_append, List.singleton_append, Nat.sub_self, Nat.zero_add, Nat.reduceAdd, Nat.reduceSub,
  List.getElem?_cons_zero, List.getElem?_cons_succ, List.set_cons_zero, List.set_cons_succ, Option.some.injEq, exists_eq_left, exists_eq_left', V.int.injEq, V.bl.injEq, V.str.injEq, V.ref.injEq,
  uAdd_int, uAdd_str, uSub_int, uMul_int, uMul_str, uDiv_int, uMod_int, uPow_int, uLt_int, uLe_int, uGt_int, uGe_int, uIs_non, uNis_non, uIs_bl, uNis_bl, sp1, sp2, sp3, sp4, uEq_int, uEq_str, uNe_int, uNe_str, uSl_str, uLen_str, decide_eq_true_eq])
local macro_rules | `(tactic| walk_at "1") => `(tactic| try simp only [turnE, lcT, Snoc, tRet, tRetN, tAndV, tOrV, tNotV, tCB, tCons, tVar, tNil, tC, tOp, tAsg, gName, gSub, tIfS, tDrop, tFn, tTup, tLst, tNext, tB, tTest, tNot, tAnd, tOr, tIf, tChain, tUn, rU, tFld, tPart, tNoPart, L2.tSl, tBM, tPar, tPar3, tTruth, tDNewK,
  L2.start, List.map_cons, List.map_nil, List.length_cons, List.length_nil, List.replicate_succ, List.replicate_zero, List.append_nil, List.nil_append, List.cons_append, List.singleton_append, Nat.sub_self, Nat.zero_add, Nat.reduceAdd, Nat.reduceSub,
  List.getElem?_cons_zero, List.getElem?_cons_succ, List.set_cons_zero, List.set_cons_succ, Option.some.injEq, exists_eq_left, exists_eq_left', V.int.injEq, V.bl.injEq, V.str.injEq, V.ref.injEq,
  uAdd_int, uAdd_str, uSub_int, uMul_int, uMul_str, uDiv_int, uMod_int, uPow_int, uLt_int, uLe_int, uGt_int, uGe_int, uIs_non, uNis_non, uIs_bl, uNis_bl, sp1, sp2, sp3, sp4, uEq_int, uEq_str, uNe_int, uNe_str, uSl_str, uLen_str, decide_eq_true_eq])
local macro_rules | `(tactic| walk_at "s") => `(tactic| ((try dsimp only [turnE]); with_reducible refine seq_ ?_))

/-- dict([(place, ..) for place in "abc"]) -/
theorem dict_abc {f : Nat → Option Int} {j : Nat} {te : TE} {σ : L2.St}
    (step : ∀ (i : Nat) (H2 : Hp) (Q2 : VK), i < 3 → Same H H2 → (∀ t H3, H2 t = none → Same H2 H3 → H3 t = some (.tup [.str (pl i), pV (f i)]) → Q2 (.ref t) H3) → te (σ.set j (some (.str (pl i)))) H2 Q2)
    (fin : ∀ d H', Same H H' → H d = none → H' d = some (.dK (plD f)) → Q (.ref d) H') : tCB (rDictP K) (tCons (tLc (iStr (tC (.str "abc"))) (gName j) tYes te [j]) tNil) σ H Q := by
  refine (show tLc (iStr (tC (V.str "abc"))) (gName j) tYes te [j] σ H (fun x H1 => rDictP K [x] H1 Q) from ?_)
  refine tLc_str (z := "abc") (fun Q => rfl) fun C nC => ?_
  have el : strL "abc" = [0, 1, 2].map fun d => V.str (pl d) := by rw [abc_wd, strL_wd]
  refine lc_freshO (plain_S (z := "abc")) (fun i => .tup [.str (pl i), pV (f i)]) nC (by rw [el]; decide) (fun _ _ => trivial) ?_ ?_
  · intro i x H2 Q2 hx s2 k
    rw [el] at hx
    match i, hx with
    | 0, hx => cases hx; exact step 0 H2 Q2 (by decide) s2 k
    | 1, hx => cases hx; exact step 1 H2 Q2 (by decide) s2 k
    | 2, hx => cases hx; exact step 2 H2 Q2 (by decide) s2 k
  · intro H2 ls s2 hl gD at_ nd nD fr
    rw [el] at hl
    refine ⟨C, ls, plD f, rfl, .inl (.inl gD), ?_, fun d nd2 => ?_⟩
    · match ls, hl, at_ with
      | [a, b, c], _, at_ => exact .cons (.inl (.inl (at_ 0 a rfl))) (.cons (.inl (.inl (at_ 1 b rfl))) (.cons (.inl (.inl (at_ 2 c rfl))) .nil))
    · rw [merge_pl]
      exact fin d _ (s2.trans (same_new nd2)) (s2.free nd2) upd_same
theorem any_due {L c : Addr} {as : List Addr} {cs : Cst} {rows : LL} {ds : List Nat} {x0 x2 x3 x5 x6 x7 x8 x9 x10 x11 x12 : Option V} {D : Ends} (hR : LvR H L as rows) (hP : PosR rows) (h5 : rows.length ≤ 5)
    (hl : ds.length = rows.length) (h3 : D3 ds) (hc : H c = some (.dK (cs.map toK))) (hcs : ∀ x, Least rows ds x (getC cs x))
    (q : ∀ d H', Same H H' → H' d = some (.dK (plD (toO rows ds))) → D.nx [x0, some (.ref L), x2, x3, some (.ref c), x5, x6, some (.ref d), x8, x9, x10, x11, x12] H') :
    (tAsg (tCB (rDictP K) (tCons (tLc (iStr (tC (.str "abc"))) (gName 12) tYes (tTup (tCons (tVar 12) (tCons (tDGet1 (tVar 4) (tOp uMul (tVar 12) (tCB (uLen K) (tCons (tVar 1) tNil)))) tNil))) [12]) tNil)) (gName 7)) D [x0, some (.ref L), x2, x3, some (.ref c), x5, x6, x7, x8, x9, x10, x11, x12] H := by
  refine dict_abc (f := toO rows ds) (fun i H2 Q2 hi s2 k => ?_) fun d H2 s2 _ g2 => ?_
  · simp only [List.set_cons_zero, List.set_cons_succ]
    simp only [tTup, tCons, tVar, tNil, tDGet1]
    walk_at "1"
    have gc := s2 _ _ hc
    refine ⟨.inl ⟨_, .inl gc⟩, ?_⟩
    refine uLen_seq (.inl (.inl (.inl (s2 _ _ hR.1)))) ?_
    rw [List.length_map, hR.2.1]
    refine ⟨by omega, by omega, by show 1 ≤ 10000; decide, ?_⟩
    show ∃ o, DGet H2 c (.str (Txt.mul (pl i) (rows.length : Int))) o ∧ _
    rw [mul_pl]
    have dg := dget_toK (w := twr rows.length i) gc
    rw [(hcs (twr rows.length i)).uniq (least_to hP hl h3 i hi)] at dg
    refine ⟨_, dg, by decide, fun t nt => k t _ nt (same_new nt) ?_⟩
    rw [upd_same, getD_pV]
  · exact q d H2 s2 g2
include F in
theorem any_back {L : Addr} {as : List Addr} {rows : LL} {ds : List Nat} {x0 x2 x4 x5 x6 x7 x8 x9 x10 x11 x12 : Option V} {D : Ends} (hR : LvR H L as rows) (hP : PosR rows) (h6 : ∀ r ∈ rows, r.length = 6) (h5 : rows.length ≤ 5)
    (hl : ds.length = rows.length) (h3 : D3 ds)
    (q : ∀ d H', Same H H' → H' d = some (.dK (plD (toO (rows.map turnO) ds))) → D.nx [x0, some (.ref L), x2, some (.str (wd ds)), x4, x5, x6, x7, x8, some (.ref d), x10, x11, x12] H') :
    (tAsg (tCB (rDictP K) (tCons (tLc (iStr (tC (.str "abc"))) (gName 12) tYes (tTup (tCons (tVar 12) (tCons (tDGet1 (tFn (sp__law_far K) E0 (tCons (tVar 1) (tCons (tOp uMul (tVar 12) (tCB (uLen K) (tCons (tVar 1) tNil))) tNil))) (tVar 3)) tNil))) [12]) tNil)) (gName 9)) D [x0, some (.ref L), x2, some (.str (wd ds)), x4, x5, x6, x7, x8, x9, x10, x11, x12] H := by
  refine dict_abc (f := toO (rows.map turnO) ds) (fun i H2 Q2 hi s2 k => ?_) fun d H2 s2 _ g2 => ?_
  · simp only [List.set_cons_zero, List.set_cons_succ]
    simp only [tTup, tCons, tVar, tNil, tDGet1]
    walk_at "1"
    refine uLen_seq (.inl (.inl (.inl (s2 _ _ hR.1)))) ?_
    rw [List.length_map, hR.2.1]
    refine ⟨by omega, by omega, by show 1 ≤ 10000; decide, ?_⟩
    have gr : GrL K H2 L rows := ⟨as, .inl (.inl (s2 _ _ hR.1)), hR.2.1, fun k d r z1 z2 => .inl (.inl (s2 _ _ (hR.2.2 k d r z1 z2)))⟩
    refine ⟨L, rows, twr rows.length i, rfl, gr, h5, h6, hP, by rw [← mul_pl], by simp [twr], fun x m => ?_, fun a H3 es s3 na ga le => ?_⟩
    · unfold twr at m
      rw [List.eq_of_mem_replicate m]
      exact hi
    refine ⟨_, rfl, .inl ⟨_, .inl ga⟩, ?_⟩
    have dg := dget_toK (w := ds) ga
    rw [(le ds).uniq (least_from hP h6 hl h3 hi)] at dg
    refine ⟨_, dg, by decide, fun t nt => k t _ (s3.free nt) (s3.trans (same_new nt)) ?_⟩
    rw [upd_same, getD_pV]
  · exact q d H2 s2 g2
end
end U
namespace U
open PySem PySem.Spec PyProof.Rows L2

section
variable {K : PySem.W.Frag} (F : KF K) {vs : List V} {H H' : Hp} {Q : VK} {E : XK}
local macro_rules | `(tactic| walk_at "w") => `(tactic| try simp only [turnE, lcT, Snoc, tRet, tRetN, tAndV, tOrV, tNotV, tCB, tCons, tVar, tNil, tC, tOp, tSeq, tAsg, gName, gSub, tIfS, tDrop, tFn, tTup, tLst, tNext, tB, tTest, tNot, tAnd, tOr, tIf, tChain, tUn, rU, tFld, tPart, tNoPart, L2.tSl, tBM, tPar, tPar3, tTruth, tDNewK,
  L2.start, List.map_cons, List.map_nil, List.length_cons, List.length_nil, List.replicate_succ, List.replicate_zero, List.append_nil, List.nil_append, List.cons_append, List.singleton_append, Nat.sub_self, Nat.zero_add, Nat.reduceAdd, Nat.reduceSub,
  List.getElem?_cons_zero, List.getElem?_cons_succ, List.set_cons_zero, List.set_cons_succ, Option.some.injEq, exists_eq_left, exists_eq_left', V.int.injEq, V.bl.injEq, V.str.injEq, V.ref.injEq,
  uAdd_int, uAdd_str, uSub_int, uMul_int, uMul_str, uDiv_int, uMod_int, uPow_int, uLt_int, uLe_int, uGt_int, uGe_int, uIs_non, uNis_non, uIs_bl, uNis_bl, sp1, sp2, sp3, sp4, uEq_int, uEq_str, uNe_int, uNe_str, uSl_str, uLen_str, decide_eq_true_eq])
local macro_rules | `(tactic| walk_at "1") => `(tactic| try simp only [turnE, lcT, Snoc, tRet, tRetN, tAndV, tOrV, tNotV, tCB, tCons, tVar, tNil, tC, tOp, tAsg, gName, gSub, tIfS, tDrop, tFn, tTup, tLst, tNext, tB, tTest, tNot, tAnd, tOr, tIf, tChain, tUn, rU, tFld, tPart, tNoPart, L2.tSl, tBM, tPar, tPar3, tTruth, tDNewK,
  L2.start, List.map_cons, List.map_nil, List.length_cons, List.length_nil, List.replicate_succ, List.replicate_zero, List.append_nil, List.nil_append, List.cons_append, List.singleton_append, Nat.sub_self, Nat.zero_add, Nat.reduceAdd, Nat.reduceSub,
  List.getElem?_cons_zero, List.getElem?_cons_succ, List.set_cons_zero, List.set_cons_succ, Option.some.injEq, exists_eq_left, exists_eq_left', V.int.injEq, V.bl.injEq, V.str.injEq, V.ref.injEq,
  uAdd_int, uAdd_str, uSub_int, uMul_int, uMul_str, uDiv_int, uMod_int, uPow_int, uLt_int, uLe_int, uGt_int, uGe_int, uIs_non, uNis_non, uIs_bl, uNis_bl, sp1, sp2, sp3, sp4, uEq_int, uEq_str, uNe_int, uNe_str, uSl_str, uLen_str, decide_eq_true_eq])
local macro_rules | `(tactic| walk_at "s") => `(tactic| ((try dsimp only [turnE]); with_reducible refine seq_ ?_))

theorem Flt.dk {a : Addr} {kvs : List (Key × V)} (e : Flt H H') (h : H a = some (.dK kvs)) : H' a = some (.dK kvs) := e _ _ (fun _ _ _ z => nomatch z) h
/-- told costs to the towers; told dicts changed -/
theorem any_told {y u : Addr} {rows : LL} {ds : List Nat} {H0 : Hp} {x0 x1 x4 x5 x6 x8 x9 x10 x11 x12 : Option V} {D : Ends} (hS : Ses K y rows H0 H) (h6 : ∀ r ∈ rows, r.length = 6)
    (hl : ds.length = rows.length) (h3 : D3 ds) (gu : H u = some (.dK (plD (toO rows ds))))
    (q : ∀ x8 H', Ses K y rows H0 H' → Flt H H' → D.nx [x0, x1, some (.ref y), some (.str (wd ds)), x4, x5, x6, some (.ref u), x8, x9, x10, x11, x12] H') :
    (tSeq (tAsg (tFn (sp_to_towers K) E (tCons (tVar 2) (tCons (tVar 3) tNil))) (gName 8)) (tSeq (tIfS (tTest (tOp rNeDK (tVar 8) (tVar 7))) (tRet (tC (.bl false))) tNext) (tDrop (tBM0 K "dict" rDClear (tVar 8))))) D [x0, x1, some (.ref y), some (.str (wd ds)), x4, x5, x6, some (.ref u), x8, x9, x10, x11, x12] H := by
  walk_at "s"
  walk_at "1"
  refine ⟨y, rows, ds, rfl, hS.k, ⟨rfl, hl, h3⟩, fun g l H1 H2 hg m1 k1 s2 nl gl => ?_⟩
  rw [plD_congr fun i hi => toT_eq hg h6 hl h3 hi] at gl
  walk_at "s"
  walk_at "1"
  refine pl_alike gl (s2 _ _ (Flt.dk m1.1 gu)) ⟨_, rfl, ?_⟩
  rw [if_neg (by decide)]
  walk_at "1"
  refine ⟨_, rfl, .inr (.inr (.inl ⟨rfl, .inl ⟨_, gl⟩⟩)), l, _, rfl, rfl, gl, ?_⟩
  have s3 : Same H1 (upd H2 l (.dK [])) := (Off.trans (Same.off s2) off_upd).same nl
  exact q _ _ ((hS.mild m1 k1).same s3) (Flt.trans m1.1 (Flt.of s3))
/-- asked again -/
theorem any_again {y u b : Addr} {rows : LL} {ds : List Nat} {H0 : Hp} {x0 x1 x4 x5 x6 x8 x10 x11 x12 : Option V} {D : Ends} (hS : Ses K y rows H0 H) (h6 : ∀ r ∈ rows, r.length = 6)
    (hl : ds.length = rows.length) (h3 : D3 ds) (gu : H u = some (.dK (plD (toO rows ds)))) (gb : H b = some (.dK (plD (toO (rows.map turnO) ds))))
    (q : ∀ H', Ses K y rows H0 H' → Flt H H' → D.nx [x0, x1, some (.ref y), some (.str (wd ds)), x4, x5, x6, some (.ref u), x8, some (.ref b), x10, x11, x12] H') :
    (tIfS (tOr (tTest (tOp rNeDK (tFn (sp_to_towers K) E (tCons (tVar 2) (tCons (tVar 3) tNil))) (tVar 7))) (tTest (tOp rNeDK (tFn (sp_from_towers K) E (tCons (tVar 2) (tCons (tVar 3) tNil))) (tVar 9)))) (tRet (tC (.bl false))) tNext) D [x0, x1, some (.ref y), some (.str (wd ds)), x4, x5, x6, some (.ref u), x8, some (.ref b), x10, x11, x12] H := by
  walk_at "1"
  refine ⟨y, rows, ds, rfl, hS.k, ⟨rfl, hl, h3⟩, fun g l H1 H2 hg m1 k1 s2 nl gl => ?_⟩
  rw [plD_congr fun i hi => toT_eq hg h6 hl h3 hi] at gl
  have f2 := Flt.trans m1.1 (Flt.of s2)
  have S2 := (hS.mild m1 k1).same s2
  refine pl_alike gl (Flt.dk f2 gu) ⟨_, rfl, ?_⟩
  rw [if_neg (by decide)]
  walk_at "1"
  refine ⟨y, rows, ds, rfl, S2.k, ⟨rfl, hl, h3⟩, fun g l H3 H4 hg m3 k3 s4 nl gl => ?_⟩
  rw [plD_congr fun i hi => fromT_eq hg h6 hl h3 hi] at gl
  have f4 := f2.trans (Flt.trans m3.1 (Flt.of s4))
  refine pl_alike gl (Flt.dk f4 gb) ⟨_, rfl, ?_⟩
  rw [if_neg (by decide)]
  exact q H4 ((S2.mild m3 k3).same s4) f4
/-- a told dict changed -/
theorem any_seen {y : Addr} {rows : LL} {ds : List Nat} {H0 : Hp} {x0 x1 x4 x5 x6 x7 x8 x9 x10 x11 x12 : Option V} {D : Ends} (hS : Ses K y rows H0 H)
    (hl : ds.length = rows.length) (h3 : D3 ds)
    (q : ∀ x10 H', Ses K y rows H0 H' → Flt H H' → D.nx [x0, x1, some (.ref y), some (.str (wd ds)), x4, x5, x6, x7, x8, x9, x10, x11, x12] H') :
    (tSeq (tAsg (tFn (sp_from_towers K) E (tCons (tVar 2) (tCons (tVar 3) tNil))) (gName 10)) (tAsg (tC (.int 5)) (gSub (tVar 10) (tC (.str "a")) rSetD))) D [x0, x1, some (.ref y), some (.str (wd ds)), x4, x5, x6, x7, x8, x9, x10, x11, x12] H := by
  walk_at "s"
  walk_at "1"
  refine ⟨y, rows, ds, rfl, hS.k, ⟨rfl, hl, h3⟩, fun g l H1 H2 hg m1 k1 s2 nl gl => ?_⟩
  walk_at "1"
  refine ⟨l, _, rfl, DPut.k (k := .inr "a") gl (by show 3 < _; decide), ?_⟩
  exact q _ _ ((hS.mild m1 k1).same ((Off.trans (Same.off s2) off_upd).same nl)) (Flt.trans m1.1 (Flt.of ((Off.trans (Same.off s2) off_upd).same nl)))
/-- and again, the arguments named -/
theorem any_named {y b : Addr} {rows : LL} {ds : List Nat} {H0 : Hp} {x0 x1 x4 x5 x6 x7 x8 x10 x11 x12 : Option V} {D : Ends} (hS : Ses K y rows H0 H) (hP : PosR rows) (h6 : ∀ r ∈ rows, r.length = 6)
    (hl : ds.length = rows.length) (h3 : D3 ds) (gb : H b = some (.dK (plD (toO (rows.map turnO) ds))))
    (q : ∀ H', Ses K y rows H0 H' → Flt H H' → D.nx [x0, x1, some (.ref y), some (.str (wd ds)), x4, x5, x6, x7, x8, some (.ref b), x10, x11, x12] H') :
    (tIfS (tOr (tTest (tOp rNeDK (tFnK 2 (sp_from_towers K) (fun vs zs => kwP [1, 0] vs zs) E (tCons (tVar 3) (tCons (tVar 2) tNil))) (tVar 9))) (tTest (tOp (uNe K) (tFnK 3 (sp_least K) (fun vs zs => kwP [2, 0, 1] vs zs) E (tCons (tVar 3) (tCons (tVar 3) (tCons (tVar 2) tNil)))) (tC (.int 0))))) (tRet (tC (.bl false))) tNext) D [x0, x1, some (.ref y), some (.str (wd ds)), x4, x5, x6, x7, x8, some (.ref b), x10, x11, x12] H := by
  walk_at "1"
  simp only [tFnK]
  walk_at "1"
  refine ⟨trivial, y, rows, ds, rfl, hS.k, ⟨rfl, hl, h3⟩, fun g l H1 H2 hg m1 k1 s2 nl gl => ?_⟩
  rw [plD_congr fun i hi => fromT_eq hg h6 hl h3 hi] at gl
  have f2 := Flt.trans m1.1 (Flt.of s2)
  have S2 := (hS.mild m1 k1).same s2
  refine pl_alike gl (Flt.dk f2 gb) ⟨_, rfl, ?_⟩
  rw [if_neg (by decide)]
  walk_at "1"
  refine ⟨trivial, y, rows, ds, ds, rfl, S2.k, ⟨rfl, hl, h3⟩, ⟨rfl, hl, h3⟩, fun g H3 hg m3 k3 => ?_⟩
  rw [(least_least hP hg h6 hl hl h3 h3).uniq (least_refl hP)]
  show uNe K (.int 0) (.int 0) H3 _
  walk_at "1"
  exact q H3 (S2.mild m3 k3) (f2.trans m3.1)
end
end U
namespace U
open PySem PySem.Spec PyProof.Rows L2

def sp__law_right (K : PySem.W.Frag) : Sp := sp1 fun x H Q _ => ∃ b m, x = .ref b ∧ Bx H b m ∧ m ≤ 100000 ∧ ∀ H', Off b H H' → Q (.bl true) H'
def t_law (K : PySem.W.Frag) (E : XK) : TS := (tSeq (tFor (iRng1 (tCons (tCB uMax2 (tCons (tC (.int 2)) (tCons (tCB uMin2 (tCons (tC (.int 4)) (tCons (tCB (uLen K) (tCons (tVar 0) tNil)) tNil))) tNil))) tNil)) (gName 1) (tIfS (tNot (tB (tFn (sp__law_right K) E (tCons (tFn (sp__law_bag K) E (tCons (tFn (sp__law_cell K) E (tCons (tVar 0) (tCons (tVar 1) tNil))) tNil)) tNil)))) (tRet (tC (.bl false))) tNext)) (tRet (tC (.bl true))))
section
variable {K : PySem.W.Frag} (F : KF K) {vs : List V} {H H' : Hp} {Q : VK} {E : XK}
local macro_rules | `(tactic| walk_at "w") => `(tactic| try simp only [turnE, lcT, Snoc, tRet, tRetN, tAndV, tOrV, tNotV, tCB, tCons, tVar, tNil, tC, tOp, tSeq, tAsg, gName, gSub, tIfS, tDrop, tFn, tTup, tLst, tNext, tB, tTest, tNot, tAnd, tOr, tIf, tChain, tUn, rU, tFld, tPart, tNoPart, L2.tSl, tBM, tPar, tPar3, tTruth, tDNewK,
  L2.start, List.map_cons, List.map_nil, List.length_cons, List.length_nil, List.replicate_succ, List.replicate_zero, List.append_nil, List.nil_append, List.cons_append, List.singleton_append, Nat.sub_self, Nat.zero_add, Nat.reduceAdd, Nat.reduceSub,
  List.getElem?_cons_zero, List.getElem?_cons_succ, List.set_cons_zero, List.set_cons_succ, Option.some.injEq, exists_eq_left, exists_eq_left', V.int.injEq, V.bl.injEq, V.str.injEq, V.ref.injEq,
  uAdd_int, uAdd_str, uSub_int, uMul_int, uMul_str, uDiv_int, uMod_int, uPow_int, uLt_int, uLe_int, uGt_int, uGe_int, uIs_non, uNis_non, uIs_bl, uNis_bl, sp1, sp2, sp3, sp4, uEq_int, uEq_str, uNe_int, uNe_str, uSl_str, uLen_str, decide_eq_true_eq])
local macro_rules | `(tactic| walk_at "1") => `(tactic| try simp only [turnE, lcT, Snoc, tRet, tRetN, tAndV, tOrV, tNotV, tCB, tCons, tVar, tNil, tC, tOp, tAsg, gName, gSub, tIfS, tDrop, tFn, tTup, tLst, tNext, tB, tTest, tNot, tAnd, tOr, tIf, tChain, tUn, rU, tFld, tPart, tNoPart, L2.tSl, tBM, tPar, tPar3, tTruth, tDNewK,
  L2.start, List.map_cons, List.map_nil, List.length_cons, List.length_nil, List.replicate_succ, List.replicate_zero, List.append_nil, List.nil_append, List.cons_append, List.singleton_append, Nat.sub_self, Nat.zero_add, Nat.reduceAdd, Nat.reduceSub,
  List.getElem?_cons_zero, List.getElem?_cons_succ, List.set_cons_zero, List.set_cons_succ, Option.some.injEq, exists_eq_left, exists_eq_left', V.int.injEq, V.bl.injEq, V.str.injEq, V.ref.injEq,
  uAdd_int, uAdd_str, uSub_int, uMul_int, uMul_str, uDiv_int, uMod_int, uPow_int, uLt_int, uLe_int, uGt_int, uGe_int, uIs_non, uNis_non, uIs_bl, uNis_bl, sp1, sp2, sp3, sp4, uEq_int, uEq_str, uNe_int, uNe_str, uSl_str, uLen_str, decide_eq_true_eq])
local macro_rules | `(tactic| walk_at "s") => `(tactic| ((try dsimp only [turnE]); with_reducible refine seq_ ?_))

theorem low_prices {rows : LL} (h : RowsLo rows) : PricesOk rows := by
  intro p m
  obtain ⟨r, mr, m2⟩ := List.mem_flatMap.mp m
  obtain ⟨o, mo, e⟩ := List.mem_filterMap.mp m2
  have e : o = some p := e
  subst e
  have l := of_decide_eq_true (List.all_eq_true.mp (h r mr) _ mo)
  have a : (10 : Int) ^ 32 = 100000000000000000000000000000000 := by decide
  have b : (10 : Int) ^ 33 = 1000000000000000000000000000000000 := by decide
  rw [a] at l
  rw [b]
  omega
theorem ok_pos {rows : LL} (h : RowsOk rows) : PosR rows := fun r m v mv => of_decide_eq_true (List.all_eq_true.mp (h.2.2 r m).2 _ mv)
/-- a yard that has no reckoning yet -/
def YdN (K : PySem.W.Frag) (H : Hp) (y : Addr) (rows : LL) : Prop := Yd K H y rows ∧ ∃ dx t, H y = some (.ins (He.ga K "Yard") dx [("_rows", .ref t), ("_reckoning", .non)])
theorem YdN.off {y b : Addr} {rows : LL} {l : List V} (h : YdN K H y rows) (hb : H b = some (.lst l)) (o : Off b H H') : YdN K H' y rows := by
  obtain ⟨h1, dx, t, g⟩ := h
  exact ⟨o.yd hb h1, dx, t, o _ _ (by rintro rfl; rw [hb] at g; cases g) g⟩
theorem YdN.ses {y b : Addr} {rows : LL} {H0 : Hp} (h : YdN K H y rows) (hp : PricesOk rows) (n : H0 y = none) (s : Same H0 H) : Ses K y rows H0 H := by
  obtain ⟨h1, dx, t, g⟩ := h
  refine ⟨n, s, ⟨h1, hp, dx, t, .non, g, .inl rfl⟩, fun a ⟨d2, t2, z⟩ => ?_⟩
  rw [g] at z
  simp at z
theorem make_yardN {rows : LL} {v : V} {R : Addr → Hp → Prop} (hr : RowV K H v rows) (ho : RowsOk rows) (q : ∀ x H', Same H H' → H x = none → YdN K H' x rows → R x H') :
    ∀ x dx, H x = none → H dx = none → dx ≠ x → sp_Yard_init K [.ref x, v] (upd (upd H dx (.own x)) x (.ins (He.ga K "Yard") dx [])) (fun v H2 => v = .non ∧ R x H2) E := by
  intro x dx hx hdx hne
  have s1 : Same H (upd H dx (.own x)) := same_new hdx
  have hx1 : upd H dx (.own x) x = none := by rw [upd_ne hne.symm]; exact hx
  have s2 : Same (upd H dx (.own x)) (upd (upd H dx (.own x)) x (.ins (He.ga K "Yard") dx [])) := same_new hx1
  refine ⟨x, dx, rfl, upd_same, .inl ⟨rows, hr.same (s1.trans s2), ho, fun H' o hy ⟨d2, t2, g2⟩ => ⟨rfl, q x H' ?_ hx ⟨hy, d2, t2, g2⟩⟩⟩⟩
  exact Off.same (Off.trans (Same.off (s1.trans s2)) o) hx
/-- the heap without the bag -/
def Wo (H : Hp) (b : Addr) : Hp := fun a => if a = b then none else H a
theorem Wo.of {b : Addr} (o : Off b H H') : Same (Wo H b) H' := fun a u e => by
  unfold Wo at e
  split at e
  · cases e
  · rename_i n
    exact o a u n e
theorem Wo.back {b : Addr} (s : Same (Wo H b) H') : Off b H H' := fun a u n e => s a u (by unfold Wo; rw [if_neg n]; exact e)
theorem Wo.non {a b : Addr} (n : H a = none) : Wo H b a = none := by
  unfold Wo
  split
  · rfl
  · exact n
include F in
/-- asked for each arrangement -/
theorem any_all {y c L : Addr} {as : List Addr} {cs : Cst} {rows : LL} {ds : List Nat} {H0 : Hp} {x0 x5 x6 x7 x8 x9 x10 x11 x12 : Option V} {D : Ends} (hS : Ses K y rows H0 H) (hR : LvR H L as rows) (hP : PosR rows) (h6 : ∀ r ∈ rows, r.length = 6) (h5 : rows.length ≤ 5)
    (hl : ds.length = rows.length) (h3 : D3 ds) (hc : H c = some (.dK (cs.map toK))) (hcs : ∀ x, Least rows ds x (getC cs x))
    (q : ∀ x5 x6 H', Ses K y rows H0 H' → Flt H H' → D.nx [x0, some (.ref L), some (.ref y), some (.str (wd ds)), some (.ref c), x5, x6, x7, x8, x9, x10, x11, x12] H') :
    (tFor (iSeq K (tFn (sp__law_all K) E (tCons (tCB (uLen K) (tCons (tVar 1) tNil)) tNil))) (gName 5) (tSeq (tIfS (tTest (tOp (uNe K) (tCB (uRepr K) (tCons (tFn (sp_least K) E (tCons (tVar 2) (tCons (tVar 3) (tCons (tVar 5) tNil)))) tNil)) (tCB (uRepr K) (tCons (tDGet1 (tVar 4) (tVar 5)) tNil)))) (tRet (tC (.bl false))) tNext) (tSeq (tAsg (tLc (iRng1 (tCons (tCB (uLen K) (tCons (tVar 1) tNil)) tNil)) (gName 11) (tTest (tOp (uNe K) (tOp (uIx K) (tVar 5) (tVar 11)) (tOp (uIx K) (tVar 3) (tVar 11)))) (tVar 11) [11]) (gName 6)) (tIfS (tTest (tOp (uNe K) (tFn (sp_largest_moving K) E (tCons (tVar 2) (tCons (tVar 3) (tCons (tVar 5) tNil)))) (tIf (tTest (tOp (uNe K) (tVar 6) (tLst tNil))) (tOp (uIx K) (tVar 6) (tC (.int 0))) (tC .non)))) (tRet (tC (.bl false))) tNext)))) D [x0, some (.ref L), some (.ref y), some (.str (wd ds)), some (.ref c), x5, x6, x7, x8, x9, x10, x11, x12] H := by
  refine tFor_seqL ?_
  walk_at "1"
  refine uLen_seq (.inl (.inl (.inl hR.1))) ?_
  rw [List.length_map, hR.2.1]
  refine ⟨rows.length, rfl, h5, fun l ws H1 s1 gl ok few => ⟨l, rfl, ⟨_, .inl (.inl gl)⟩, ?_⟩⟩
  refine for_plain (plain_L (K := K) (a := l) (xs := ws.map fun w => V.str (wd w))) (fun R r => r)
    (fun i τ H' => ∃ x5 x6, τ = [x0, some (.ref L), some (.ref y), some (.str (wd ds)), some (.ref c), x5, x6, x7, x8, x9, x10, x11, x12] ∧ (Ses K y rows H0 H' ∧ Flt H1 H'))
    ⟨_, _, rfl, hS.same s1, Flt.of (Same.refl _)⟩ (fun i τ H' ⟨_, _, _, _, f⟩ => .inl (.inl (f _ _ (fun _ _ _ z => nomatch z) gl))) ?_ ?_
  · rintro i x τ H2 hx ⟨y5, y6, rfl, S2, f2⟩
    rw [List.getElem?_map] at hx
    obtain ⟨w, hw, rfl⟩ := Option.map_eq_some_iff.mp hx
    obtain ⟨w1, w2⟩ := ok w (List.mem_of_getElem? hw)
    have f02 := (Flt.of s1).trans f2
    simp only [gName, List.set_cons_zero, List.set_cons_succ]
    refine seq_ ?_
    refine any_least S2 hP h6 h5 hl h3 w1 w2 (Flt.dk f02 hc) hcs fun H3 S3 f3 => ?_
    refine seq_ ?_
    refine any_unlike ((hR.flt f02).flt f3) h5 hl h3 w1 w2 fun u H4 s4 gu => ?_
    refine any_largest (S3.same s4) hl h3 w1 w2 gu fun H5 S5 s5 => ?_
    exact ⟨_, _, rfl, S5, (f2.trans f3).trans ((Flt.of s4).trans (Flt.of s5))⟩
  · rintro τ H2 ⟨y5, y6, rfl, S2, f2⟩
    exact q _ _ H2 S2 ((Flt.of s1).trans f2)
theorem seq3 {a b c f : TS} {D : Ends} {σ : L2.St} (h : tSeq a (tSeq b c) { D with nx := f D } σ H) : tSeq a (tSeq b (tSeq c f)) D σ H := h
theorem seq2 {a b f : TS} {D : Ends} {σ : L2.St} (h : tSeq a b { D with nx := f D } σ H) : tSeq a (tSeq b f) D σ H := h
include F in
theorem read__law_right (h : sp__law_right K vs H Q E) : t__law_right K E { nx := fun _ H' => Q .non H', rt := Q } (start ["_law_bag_here", "_law_rows_here", "_law_yard_now", "_law_begun", "_law_costs", "_law_word_here", "_law_unlike", "_law_due", "_law_told", "_law_back", "_law_seen", "_law_crate", "_law_place"] vs) H := by
  match vs, h with
  | [_], ⟨b, m, rfl, hb, hm, q⟩ =>
    unfold t__law_right
    walk_at "s"
    walk_at "1"
    refine take_of hb (by omega) (by omega) (by omega) fun d H1 d0 d1 o1 b1 => ?_
    walk_at "1"
    refine .inr ⟨_, rfl, ?_⟩
    walk_at "1"
    obtain ⟨n, hn, n5⟩ : ∃ n : Nat, (4 + (if d = 0 then 1 else 0) : Int) = (n : Int) ∧ (1 ≤ n ∧ n ≤ 5) := by
      by_cases z : d = 0
      · exact ⟨5, by rw [if_pos z]; rfl, by decide⟩
      · exact ⟨4, by rw [if_neg z]; rfl, by decide⟩
    refine ⟨b, _, n, rfl, congrArg V.int hn, n5.1, by omega, b1, by omega, fun rows v H2 hrl ho hv o2 b2 hlo ⟨L, as, hvL, hp⟩ => ?_⟩
    subst hvL
    have h1 := ho.1
    have h6 : ∀ r ∈ rows, r.length = 6 := fun r m => (ho.2.2 r m).1
    have h5 : rows.length ≤ 5 := by omega
    have hP := ok_pos ho
    have q : ∀ H', Same (Wo H2 b) H' → Q (.bl true) H' := fun H' s => q H' ((o1.trans o2).trans (Wo.back s))
    clear o1 o2 b1
    walk_at "s"
    simp only [tAsg, tTup, tCons, tNil]
    walk_at "1"
    simp only [tMake]
    walk_at "1"
    refine make_yardN hv ho fun y H3 s3 ny hy => ?_
    refine uLen_seq (.inl (.inl (.inl (s3 _ _ hp.1)))) ?_
    rw [List.length_map, hp.2.2.1]
    have b3 := b2.same s3
    obtain ⟨bl, gb⟩ := b3.at_
    have hp3 : PI H3 L b as rows := hp.off (Same.off s3)
    refine ⟨b, _, rows.length, rfl, rfl, by omega, b3, by omega, fun ds H4 hl h3 o4 b4 => ?_⟩
    have hy4 := hy.off gb o4
    have hp4 := hp3.off o4
    have sW : Same (Wo H2 b) H4 := Wo.of (Off.trans (Same.off s3) o4)
    have hS := hy4.ses (b := b) (low_prices hlo) (Wo.non (b := b) ny) sW
    have hR : LvR H4 L as rows := ⟨hp4.1, hp4.2.2.1, fun k d r z1 z2 => (hp4.2.2.2.2 k d r z1 z2).1⟩
    clear hp hp3 hp4 hy hy4 gb b2 b3 b4 o4 s3 sW
    refine ⟨by decide, fun T nT => ?_⟩
    have sT : Same H4 (upd H4 T (.tup [.ref y, .str (wd ds)])) := same_new nT
    have gT : upd H4 T (.tup [.ref y, .str (wd ds)]) T = some (.tup [.ref y, .str (wd ds)]) := upd_same
    have hS := hS.same sT
    have hR := hR.flt (Flt.of sT)
    generalize upd H4 T (.tup [.ref y, .str (wd ds)]) = H5 at *
    refine ⟨T, _, rfl, .inl (.inl gT), rfl, ?_⟩
    refine ⟨_, _, rfl, _, _, rfl, rfl, ?_⟩
    simp only [List.set_cons_zero, List.set_cons_succ]
    walk_at "s"
    walk_at "1"
    have gr : GrL K H5 L rows := ⟨as, .inl (.inl hR.1), hR.2.1, fun k d r z1 z2 => .inl (.inl (hR.2.2 k d r z1 z2))⟩
    refine ⟨L, rows, ds, rfl, gr, h5, h6, hP, rfl, hl, h3, fun c H6 cs s6 nc gc hcs => ?_⟩
    have hS := hS.same s6
    have hR := hR.flt (Flt.of s6)
    walk_at "s"
    refine any_all F hS hR hP h6 h5 hl h3 gc hcs fun x5 x6 H7 hS f7 => ?_
    have hR := hR.flt f7
    have gc := Flt.dk f7 gc
    walk_at "s"
    refine any_due hR hP h5 hl h3 gc hcs fun u H8 s8 gu => ?_
    have hS := hS.same s8
    have hR := hR.flt (Flt.of s8)
    refine seq3 ?_
    refine any_told hS h6 hl h3 gu fun x8 H9 hS f9 => ?_
    have hR := hR.flt f9
    have gu := Flt.dk f9 gu
    walk_at "s"
    refine any_back F hR hP h6 h5 hl h3 fun w H10 s10 gw => ?_
    have hS := hS.same s10
    have hR := hR.flt (Flt.of s10)
    walk_at "s"
    refine any_again hS h6 hl h3 (s10 _ _ gu) gw fun H11 hS f11 => ?_
    have hR := hR.flt f11
    have gw := Flt.dk f11 gw
    refine seq2 ?_
    refine any_seen hS hl h3 fun x10 H12 hS f12 => ?_
    have hR := hR.flt f12
    have gw := Flt.dk f12 gw
    walk_at "s"
    refine any_named hS hP h6 hl h3 gw fun H13 hS f13 => ?_
    have hR := hR.flt f13
    simp only [tMeth]
    walk_at "1"
    obtain ⟨yd, _, dx, t, rk, gy, _⟩ := id hS.k
    refine ⟨.ref y, rfl, y, dx, _, rfl, gy, rfl, y, rows, rfl, yd, fun l' ls' H14 s14 _ g14 r14 _ _ _ => ?_⟩
    have hR := hR.flt (Flt.of s14)
    refine eq_gr (r1 := rows) (r2 := rows) ⟨ls', .inl (.inl g14), r14.1, fun k d r z1 z2 => .inl (.inl (r14.2 k d r z1 z2))⟩ ⟨as, .inl (.inl hR.1), hR.2.1, fun k d r z1 z2 => .inl (.inl (hR.2.2 k d r z1 z2))⟩ ?_
    rw [decide_eq_true rfl]
    exact q H14 (hS.same s14).s
include F in
theorem read_law (h : sp_law0 K vs H Q E) : t_law K E { nx := fun _ H' => Q .non H', rt := Q } (start ["_law_script", "_law_k"] vs) H := by
  match vs, h with
  | [_], ⟨a, ns, rfl, hs, q⟩ =>
    unfold t_law
    walk_at "s"
    obtain ⟨N, hN6, hN⟩ := most_of (ns.map V.int).length 4 (by decide)
    refine for_rng1 (n := N) (fun R r => by
      walk_at "1"
      refine uLen_seq (.inl hs) ⟨_, _, rfl, ⟨_, _, rfl, ?_⟩⟩
      show R [.int _] H
      rw [hN]
      exact r) (by omega) (fun i σ H' => Same H H' ∧ ∃ x1, σ = [some (.ref a), x1]) ⟨Same.refl H, _, rfl⟩ ?_ ?_
    · rintro i σ H0 hi ⟨s0, x1, rfl⟩
      simp only [gName, List.set_cons_zero, List.set_cons_succ]
      walk_at "1"
      refine ⟨a, ns, i, rfl, rfl, Same.seq s0 hs, by omega, by omega, fun c H1 s1 => ?_⟩
      refine ⟨c, rfl, fun b H2 hb0 s2 hb => ?_⟩
      have s02 := s0.trans (s1.trans s2)
      have nb := (s0.trans s1).free hb0
      refine ⟨b, 0, rfl, hb, by decide, fun H3 o3 => ⟨true, rfl, ?_⟩⟩
      rw [if_neg (by decide)]
      exact ⟨(Off.trans (Same.off s02) o3).same nb, _, rfl⟩
    · rintro σ H0 ⟨s0, x1, rfl⟩
      walk_at "1"
      exact q H0
end
end U
namespace U
open PySem PySem.Spec PyProof.Rows L2

theorem krB_ok {K : PySem.W.Frag} (h : krB K = true) : KR K := by
  unfold krB at h
  simp only [decide_eq_true_eq, Bool.and_eq_true] at h
  obtain ⟨h1, h2, h3, h4, h5, h6⟩ := h
  exact ⟨He.cls_ok h1, He.noat_ok h2, He.noat_ok h3, He.noat_ok h4, He.noat_ok h5, h6⟩
theorem sp5_len {f : V → V → V → V → V → Hp → VK → XK → Prop} {a b c d e : Str} : ∀ vs H Q E, sp_both_lines.sp5' f vs H Q E → vs.length = ([a, b, c, d, e] : List Str).length := fun vs H Q E h => match vs, h with
  | [_, _, _, _, _], _ => rfl
end U
namespace U
open PySem PySem.Spec PyProof.Rows L2
abbrev n__law_bag : List Str := ["_law_cell_here"]
theorem sc__law_bag : FnScope n__law_bag ["_law_cell_here"] (defScope s__law_bag) := ⟨rfl, rfl, rfl, by decide +kernel, rfl, by decide +kernel, by decide +kernel⟩
abbrev n__law_cell : List Str := ["_law_script", "_law_k", "_law_spare"]
theorem sc__law_cell : FnScope n__law_cell ["_law_script", "_law_k"] (defScope s__law_cell) := ⟨rfl, rfl, rfl, by decide +kernel, rfl, by decide +kernel, by decide +kernel⟩
abbrev n_Yard_rows : List Str := ["self", "row"]
theorem sc_Yard_rows : FnScope n_Yard_rows ["self"] (defScope s_Yard_rows) := ⟨rfl, rfl, rfl, by decide +kernel, rfl, by decide +kernel, by decide +kernel⟩
abbrev n__law_all : List Str := ["_law_count", "_law_found", "_law_crate", "_law_longer", "_law_word_here", "_law_place"]
theorem sc__law_all : FnScope n__law_all ["_law_count"] (defScope s__law_all) := ⟨rfl, rfl, rfl, by decide +kernel, rfl, by decide +kernel, by decide +kernel⟩
abbrev n__law_price : List Str := ["_law_line", "_law_first", "_law_last"]
theorem sc__law_price : FnScope n__law_price ["_law_line", "_law_first", "_law_last"] (defScope s__law_price) := ⟨rfl, rfl, rfl, by decide +kernel, rfl, by decide +kernel, by decide +kernel⟩
abbrev n__law_next : List Str := ["_law_rows_here", "_law_word_here", "_law_found", "_law_crate", "_law_line", "_law_rest", "_law_place", "_law_price_here"]
theorem sc__law_next : FnScope n__law_next ["_law_rows_here", "_law_word_here"] (defScope s__law_next) := ⟨rfl, rfl, rfl, by decide +kernel, rfl, by decide +kernel, by decide +kernel⟩
abbrev n__law_far : List Str := ["_law_rows_here", "_law_start_now", "_law_cost", "_law_done", "_law_word_here", "_law_near", "_law_price_here", "_law_amount"]
theorem sc__law_far : FnScope n__law_far ["_law_rows_here", "_law_start_now"] (defScope s__law_far) := ⟨rfl, rfl, rfl, by decide +kernel, rfl, by decide +kernel, by decide +kernel⟩
abbrev n__law_take : List Str := ["_law_bag_here", "_law_limit", "_law_digit", "_law_mixed"]
theorem sc__law_take : FnScope n__law_take ["_law_bag_here", "_law_limit"] (defScope s__law_take) := ⟨rfl, rfl, rfl, by decide +kernel, rfl, by decide +kernel, by decide +kernel⟩
abbrev n__law_rows : List Str := ["_law_bag_here", "_law_most", "_law_kind", "_law_bars", "_law_found", "_law_crate", "_law_line", "_law_way", "_law_price_here"]
theorem sc__law_rows : FnScope n__law_rows ["_law_bag_here", "_law_most"] (defScope s__law_rows) := ⟨rfl, rfl, rfl, by decide +kernel, rfl, by decide +kernel, by decide +kernel⟩
abbrev n__law_word : List Str := ["_law_bag_here", "_law_count", "_law_crate"]
theorem sc__law_word : FnScope n__law_word ["_law_bag_here", "_law_count"] (defScope s__law_word) := ⟨rfl, rfl, rfl, by decide +kernel, rfl, by decide +kernel, by decide +kernel⟩
abbrev n_turned : List Str := ["six", "ab", "ac", "ba", "bc", "ca", "cb"]
theorem sc_turned : FnScope n_turned ["six"] (defScope s_turned) := ⟨rfl, rfl, rfl, by decide +kernel, rfl, by decide +kernel, by decide +kernel⟩
abbrev n_Reckoning_init : List Str := ["self", "bound", "prices", "towers"]
theorem sc_Reckoning_init : FnScope n_Reckoning_init ["self", "bound", "prices", "towers"] (defScope s_Reckoning_init) := ⟨rfl, rfl, rfl, by decide +kernel, rfl, by decide +kernel, by decide +kernel⟩
abbrev n_Reckoning_backwards : List Str := ["self", "prices", "six"]
theorem sc_Reckoning_backwards : FnScope n_Reckoning_backwards ["self"] (defScope s_Reckoning_backwards) := ⟨rfl, rfl, rfl, by decide +kernel, rfl, by decide +kernel, by decide +kernel⟩
abbrev n__from_place : List Str := ["place", "prices", "towers", "below", "ab", "ac", "ba", "bc", "ca", "cb", "price_ab", "price_ac", "price_ba", "price_bc", "price_ca", "price_cb", "to_a", "to_b", "to_c"]
theorem sc__from_place : FnScope n__from_place ["place", "prices", "towers", "below"] (defScope s__from_place) := ⟨rfl, rfl, rfl, by decide +kernel, rfl, by decide +kernel, by decide +kernel⟩
abbrev n_to_towers_above : List Str := ["places", "prices", "towers", "below", "ones", "place", "costs"]
theorem sc_to_towers_above : FnScope n_to_towers_above ["places", "prices", "towers", "below"] (defScope s_to_towers_above) := ⟨rfl, rfl, rfl, by decide +kernel, rfl, by decide +kernel, by decide +kernel⟩
abbrev n_Reckoning_to_towers : List Str := ["self", "starts", "levels", "places", "prices", "towers"]
theorem sc_Reckoning_to_towers : FnScope n_Reckoning_to_towers ["self", "starts"] (defScope s_Reckoning_to_towers) := ⟨rfl, rfl, rfl, by decide +kernel, rfl, by decide +kernel, by decide +kernel⟩
abbrev n_Reckoning_from_towers : List Str := ["self", "goals"]
theorem sc_Reckoning_from_towers : FnScope n_Reckoning_from_towers ["self", "goals"] (defScope s_Reckoning_from_towers) := ⟨rfl, rfl, rfl, by decide +kernel, rfl, by decide +kernel, by decide +kernel⟩
abbrev n_Reckoning_named : List Str := ["self", "names", "numbers", "bound", "name", "number"]
theorem sc_Reckoning_named : FnScope n_Reckoning_named ["self", "names", "numbers"] (defScope s_Reckoning_named) := ⟨rfl, rfl, rfl, by decide +kernel, rfl, by decide +kernel, by decide +kernel⟩
abbrev n_towers_above : List Str := ["prices", "below", "ab", "ac", "ba", "bc", "ca", "cb", "price_ab", "price_ac", "price_ba", "price_bc", "price_ca", "price_cb"]
theorem sc_towers_above : FnScope n_towers_above ["prices", "below"] (defScope s_towers_above) := ⟨rfl, rfl, rfl, by decide +kernel, rfl, by decide +kernel, by decide +kernel⟩
abbrev n_without_bars : List Str := ["rows", "bound", "row", "price"]
theorem sc_without_bars : FnScope n_without_bars ["rows", "bound"] (defScope s_without_bars) := ⟨rfl, rfl, rfl, by decide +kernel, rfl, by decide +kernel, by decide +kernel⟩
abbrev n_reckoning_of : List Str := ["rows", "greatest", "bound", "prices", "towers", "six", "row", "price"]
theorem sc_reckoning_of : FnScope n_reckoning_of ["rows"] (defScope s_reckoning_of) := ⟨rfl, rfl, rfl, by decide +kernel, rfl, by decide +kernel, by decide +kernel⟩
abbrev n_Yard_reckoning : List Str := ["self"]
theorem sc_Yard_reckoning : FnScope n_Yard_reckoning ["self"] (defScope s_Yard_reckoning) := ⟨rfl, rfl, rfl, by decide +kernel, rfl, by decide +kernel, by decide +kernel⟩
abbrev n_Yard_len : List Str := ["self"]
theorem sc_Yard_len : FnScope n_Yard_len ["self"] (defScope s_Yard_len) := ⟨rfl, rfl, rfl, by decide +kernel, rfl, by decide +kernel, by decide +kernel⟩
abbrev n_check_yard : List Str := ["yard"]
theorem sc_check_yard : FnScope n_check_yard ["yard"] (defScope s_check_yard) := ⟨rfl, rfl, rfl, by decide +kernel, rfl, by decide +kernel, by decide +kernel⟩
abbrev n_is_arrangement : List Str := ["yard", "value"]
theorem sc_is_arrangement : FnScope n_is_arrangement ["yard", "value"] (defScope s_is_arrangement) := ⟨rfl, rfl, rfl, by decide +kernel, rfl, by decide +kernel, by decide +kernel⟩
abbrev n_check_arrangement : List Str := ["yard", "arrangement"]
theorem sc_check_arrangement : FnScope n_check_arrangement ["yard", "arrangement"] (defScope s_check_arrangement) := ⟨rfl, rfl, rfl, by decide +kernel, rfl, by decide +kernel, by decide +kernel⟩
abbrev n_from_towers : List Str := ["yard", "goal", "reckoning"]
theorem sc_from_towers : FnScope n_from_towers ["yard", "goal"] (defScope s_from_towers) := ⟨rfl, rfl, rfl, by decide +kernel, rfl, by decide +kernel, by decide +kernel⟩
abbrev n_check_both : List Str := ["yard", "start", "goal"]
theorem sc_check_both : FnScope n_check_both ["yard", "start", "goal"] (defScope s_check_both) := ⟨rfl, rfl, rfl, by decide +kernel, rfl, by decide +kernel, by decide +kernel⟩
abbrev n_first_apart : List Str := ["starts", "goals", "crate", "places", "place"]
theorem sc_first_apart : FnScope n_first_apart ["starts", "goals"] (defScope s_first_apart) := ⟨rfl, rfl, rfl, by decide +kernel, rfl, by decide +kernel, by decide +kernel⟩
abbrev n_largest_moving : List Str := ["yard", "start", "goal"]
theorem sc_largest_moving : FnScope n_largest_moving ["yard", "start", "goal"] (defScope s_largest_moving) := ⟨rfl, rfl, rfl, by decide +kernel, rfl, by decide +kernel, by decide +kernel⟩
abbrev n_both_lines : List Str := ["way", "prices", "towers", "to_towers", "from_towers", "straight", "first", "second", "back", "here", "there", "over"]
theorem sc_both_lines : FnScope n_both_lines ["way", "prices", "towers", "to_towers", "from_towers"] (defScope s_both_lines) := ⟨rfl, rfl, rfl, by decide +kernel, rfl, by decide +kernel, by decide +kernel⟩
abbrev n_Reckoning_cheapest : List Str := ["self", "starts", "goals", "crate", "rest", "prices", "towers", "to_towers", "from_towers", "here", "there"]
theorem sc_Reckoning_cheapest : FnScope n_Reckoning_cheapest ["self", "starts", "goals"] (defScope s_Reckoning_cheapest) := ⟨rfl, rfl, rfl, by decide +kernel, rfl, by decide +kernel, by decide +kernel⟩
abbrev n_Reckoning_told : List Str := ["self", "number"]
theorem sc_Reckoning_told : FnScope n_Reckoning_told ["self", "number"] (defScope s_Reckoning_told) := ⟨rfl, rfl, rfl, by decide +kernel, rfl, by decide +kernel, by decide +kernel⟩
abbrev n_least : List Str := ["yard", "start", "goal", "reckoning"]
theorem sc_least : FnScope n_least ["yard", "start", "goal"] (defScope s_least) := ⟨rfl, rfl, rfl, by decide +kernel, rfl, by decide +kernel, by decide +kernel⟩
abbrev n_to_towers : List Str := ["yard", "start", "reckoning"]
theorem sc_to_towers : FnScope n_to_towers ["yard", "start"] (defScope s_to_towers) := ⟨rfl, rfl, rfl, by decide +kernel, rfl, by decide +kernel, by decide +kernel⟩
abbrev n_is_integer : List Str := ["value"]
theorem sc_is_integer : FnScope n_is_integer ["value"] (defScope s_is_integer) := ⟨rfl, rfl, rfl, by decide +kernel, rfl, by decide +kernel, by decide +kernel⟩
abbrev n_is_price : List Str := ["value"]
theorem sc_is_price : FnScope n_is_price ["value"] (defScope s_is_price) := ⟨rfl, rfl, rfl, by decide +kernel, rfl, by decide +kernel, by decide +kernel⟩
abbrev n__is_price_row : List Str := ["value", "price"]
theorem sc__is_price_row : FnScope n__is_price_row ["value"] (defScope s__is_price_row) := ⟨rfl, rfl, rfl, by decide +kernel, rfl, by decide +kernel, by decide +kernel⟩
abbrev n__are_rows : List Str := ["value", "row"]
theorem sc__are_rows : FnScope n__are_rows ["value"] (defScope s__are_rows) := ⟨rfl, rfl, rfl, by decide +kernel, rfl, by decide +kernel, by decide +kernel⟩
abbrev n_Yard_init : List Str := ["self", "rows", "row"]
theorem sc_Yard_init : FnScope n_Yard_init ["self", "rows"] (defScope s_Yard_init) := ⟨rfl, rfl, rfl, by decide +kernel, rfl, by decide +kernel, by decide +kernel⟩
abbrev n__law_right : List Str := ["_law_bag_here", "_law_rows_here", "_law_yard_now", "_law_begun", "_law_costs", "_law_word_here", "_law_unlike", "_law_due", "_law_told", "_law_back", "_law_seen", "_law_crate", "_law_place"]
theorem sc__law_right : FnScope n__law_right ["_law_bag_here"] (defScope s__law_right) := ⟨rfl, rfl, rfl, by decide +kernel, rfl, by decide +kernel, by decide +kernel⟩
abbrev n_law : List Str := ["_law_script", "_law_k"]
theorem sc_law : FnScope n_law ["_law_script"] (defScope s_law) := ⟨rfl, rfl, rfl, by decide +kernel, rfl, by decide +kernel, by decide +kernel⟩
structure Ct (K : PySem.W.Frag) (w : World) (mg : Str → Option Value) : Prop where
  says : He5.SaysA fa fn K
  F : KF K
  ks : KS K
  xf : XF K "CratesError" excN
  kr : KR K
  g_InvalidArrangement : mg "InvalidArrangement" = some (.ref (He.ga K "InvalidArrangement"))
  g_InvalidYard : mg "InvalidYard" = some (.ref (He.ga K "InvalidYard"))
  g_PLACES : mg "PLACES" = some (.ref (He.ga K "PLACES"))
  g_Reckoning : mg "Reckoning" = some (.ref (He.ga K "Reckoning"))
  g_WAYS : mg "WAYS" = some (.ref (He.ga K "WAYS"))
  g_Yard : mg "Yard" = some (.ref (He.ga K "Yard"))
  g__TURNS : mg "_TURNS" = some (.ref (He.ga K "_TURNS"))
  g__are_rows : mg "_are_rows" = some (.ref (He.ga K "_are_rows"))
  g__from_place : mg "_from_place" = some (.ref (He.ga K "_from_place"))
  g__is_price_row : mg "_is_price_row" = some (.ref (He.ga K "_is_price_row"))
  g__law_all : mg "_law_all" = some (.ref (He.ga K "_law_all"))
  g__law_bag : mg "_law_bag" = some (.ref (He.ga K "_law_bag"))
  g__law_cell : mg "_law_cell" = some (.ref (He.ga K "_law_cell"))
  g__law_far : mg "_law_far" = some (.ref (He.ga K "_law_far"))
  g__law_next : mg "_law_next" = some (.ref (He.ga K "_law_next"))
  g__law_price : mg "_law_price" = some (.ref (He.ga K "_law_price"))
  g__law_right : mg "_law_right" = some (.ref (He.ga K "_law_right"))
  g__law_rows : mg "_law_rows" = some (.ref (He.ga K "_law_rows"))
  g__law_take : mg "_law_take" = some (.ref (He.ga K "_law_take"))
  g__law_word : mg "_law_word" = some (.ref (He.ga K "_law_word"))
  g_both_lines : mg "both_lines" = some (.ref (He.ga K "both_lines"))
  g_check_arrangement : mg "check_arrangement" = some (.ref (He.ga K "check_arrangement"))
  g_check_both : mg "check_both" = some (.ref (He.ga K "check_both"))
  g_check_yard : mg "check_yard" = some (.ref (He.ga K "check_yard"))
  g_first_apart : mg "first_apart" = some (.ref (He.ga K "first_apart"))
  g_from_towers : mg "from_towers" = some (.ref (He.ga K "from_towers"))
  g_is_arrangement : mg "is_arrangement" = some (.ref (He.ga K "is_arrangement"))
  g_is_integer : mg "is_integer" = some (.ref (He.ga K "is_integer"))
  g_is_price : mg "is_price" = some (.ref (He.ga K "is_price"))
  g_largest_moving : mg "largest_moving" = some (.ref (He.ga K "largest_moving"))
  g_law : mg "law" = some (.ref (He.ga K "law"))
  g_least : mg "least" = some (.ref (He.ga K "least"))
  g_reckoning_of : mg "reckoning_of" = some (.ref (He.ga K "reckoning_of"))
  g_to_towers : mg "to_towers" = some (.ref (He.ga K "to_towers"))
  g_to_towers_above : mg "to_towers_above" = some (.ref (He.ga K "to_towers_above"))
  g_towers_above : mg "towers_above" = some (.ref (He.ga K "towers_above"))
  g_turned : mg "turned" = some (.ref (He.ga K "turned"))
  g_without_bars : mg "without_bars" = some (.ref (He.ga K "without_bars"))
  int_MOST_CRATES : ∃ t, mg "MOST_CRATES" = some (.int 60 t)
  str__PLACE_SIGNS : ∃ t, mg "_PLACE_SIGNS" = some (.str "abc" t)
  n_all : mg "all" = none
  n_any : mg "any" = none
  n_bool : mg "bool" = none
  n_dict : mg "dict" = none
  n_enumerate : mg "enumerate" = none
  n_int : mg "int" = none
  n_isinstance : mg "isinstance" = none
  n_len : mg "len" = none
  n_list : mg "list" = none
  n_max : mg "max" = none
  n_min : mg "min" = none
  n_range : mg "range" = none
  n_repr : mg "repr" = none
  n_str : mg "str" = none
  n_tuple : mg "tuple" = none
  n_zip : mg "zip" = none
  mk_Yard : Mk K (He.ga K "Yard") (He.ma K (He.ga K "Yard") "__init__")
  mk_Reckoning : Mk K (He.ga K "Reckoning") (He.ma K (He.ga K "Reckoning") "__init__")
  m_Reckoning_init : Meth K (He.ga K "Reckoning") "__init__" (He.ma K (He.ga K "Reckoning") "__init__")
  m_Reckoning_backwards : Meth K (He.ga K "Reckoning") "backwards" (He.ma K (He.ga K "Reckoning") "backwards")
  m_Reckoning_to_towers : Meth K (He.ga K "Reckoning") "to_towers" (He.ma K (He.ga K "Reckoning") "to_towers")
  m_Reckoning_from_towers : Meth K (He.ga K "Reckoning") "from_towers" (He.ma K (He.ga K "Reckoning") "from_towers")
  m_Reckoning_cheapest : Meth K (He.ga K "Reckoning") "cheapest" (He.ma K (He.ga K "Reckoning") "cheapest")
  m_Reckoning_told : Meth K (He.ga K "Reckoning") "told" (He.ma K (He.ga K "Reckoning") "told")
  m_Reckoning_named : Meth K (He.ga K "Reckoning") "named" (He.ma K (He.ga K "Reckoning") "named")
  m_Yard_init : Meth K (He.ga K "Yard") "__init__" (He.ma K (He.ga K "Yard") "__init__")
  m_Yard_len : Meth K (He.ga K "Yard") "__len__" (He.ma K (He.ga K "Yard") "__len__")
  m_Yard_rows : Meth K (He.ga K "Yard") "rows" (He.ma K (He.ga K "Yard") "rows")
  m_Yard_reckoning : Meth K (He.ga K "Yard") "reckoning" (He.ma K (He.ga K "Yard") "reckoning")
  x_InvalidArrangement : ExcT K "InvalidArrangement" "value"
  x_InvalidYard : ExcT K "InvalidYard" "value"
  t__TURNS : TuK K w
theorem ct_of {w : World} {K : PySem.W.Frag} {h : Heap} {mg : Str → Option Value} (X : K.In h) (G : h.Ns mainGlobals mg) (cc : He5.SaysA fa fn K ∧ tabsM ts K = keysM ts w) (e : ex K = true) : Ct K w mg := by
  have c := cc.1
  unfold ex at e
  simp only [Bool.and_eq_true, and_assoc] at e
  obtain ⟨e0, e_sys, e_xf, e_kr, e_t_TURNS, e_InvalidArrangement, e_InvalidYard⟩ := e
  exact ⟨c, kfB_ok e0, kS_ok e_sys, xF_ok e_xf, krB_ok e_kr, He.glo_ok X G (c.fact 0 (f := .glo "InvalidArrangement") rfl), He.glo_ok X G (c.fact 1 (f := .glo "InvalidYard") rfl), He.glo_ok X G (c.fact 2 (f := .glo "PLACES") rfl), He.glo_ok X G (c.fact 3 (f := .glo "Reckoning") rfl), He.glo_ok X G (c.fact 4 (f := .glo "WAYS") rfl), He.glo_ok X G (c.fact 5 (f := .glo "Yard") rfl), He.glo_ok X G (c.fact 6 (f := .glo "_TURNS") rfl), He.glo_ok X G (c.fact 7 (f := .glo "_are_rows") rfl), He.glo_ok X G (c.fact 8 (f := .glo "_from_place") rfl), He.glo_ok X G (c.fact 9 (f := .glo "_is_price_row") rfl), He.glo_ok X G (c.fact 10 (f := .glo "_law_all") rfl), He.glo_ok X G (c.fact 11 (f := .glo "_law_bag") rfl), He.glo_ok X G (c.fact 12 (f := .glo "_law_cell") rfl), He.glo_ok X G (c.fact 13 (f := .glo "_law_far") rfl), He.glo_ok X G (c.fact 14 (f := .glo "_law_next") rfl), He.glo_ok X G (c.fact 15 (f := .glo "_law_price") rfl), He.glo_ok X G (c.fact 16 (f := .glo "_law_right") rfl), He.glo_ok X G (c.fact 17 (f := .glo "_law_rows") rfl), He.glo_ok X G (c.fact 18 (f := .glo "_law_take") rfl), He.glo_ok X G (c.fact 19 (f := .glo "_law_word") rfl), He.glo_ok X G (c.fact 20 (f := .glo "both_lines") rfl), He.glo_ok X G (c.fact 21 (f := .glo "check_arrangement") rfl), He.glo_ok X G (c.fact 22 (f := .glo "check_both") rfl), He.glo_ok X G (c.fact 23 (f := .glo "check_yard") rfl), He.glo_ok X G (c.fact 24 (f := .glo "first_apart") rfl), He.glo_ok X G (c.fact 25 (f := .glo "from_towers") rfl), He.glo_ok X G (c.fact 26 (f := .glo "is_arrangement") rfl), He.glo_ok X G (c.fact 27 (f := .glo "is_integer") rfl), He.glo_ok X G (c.fact 28 (f := .glo "is_price") rfl), He.glo_ok X G (c.fact 29 (f := .glo "largest_moving") rfl), He.glo_ok X G (c.fact 30 (f := .glo "law") rfl), He.glo_ok X G (c.fact 31 (f := .glo "least") rfl), He.glo_ok X G (c.fact 32 (f := .glo "reckoning_of") rfl), He.glo_ok X G (c.fact 33 (f := .glo "to_towers") rfl), He.glo_ok X G (c.fact 34 (f := .glo "to_towers_above") rfl), He.glo_ok X G (c.fact 35 (f := .glo "towers_above") rfl), He.glo_ok X G (c.fact 36 (f := .glo "turned") rfl), He.glo_ok X G (c.fact 37 (f := .glo "without_bars") rfl), He.int_ok X G (c.fact 38 (f := .int "MOST_CRATES" 60) rfl), He.str_ok X G (c.fact 39 (f := .str "_PLACE_SIGNS" "abc") rfl), He.free_ok X G (c.fact 40 (f := .free "all") rfl), He.free_ok X G (c.fact 41 (f := .free "any") rfl), He.free_ok X G (c.fact 42 (f := .free "bool") rfl), He.free_ok X G (c.fact 43 (f := .free "dict") rfl), He.free_ok X G (c.fact 44 (f := .free "enumerate") rfl), He.free_ok X G (c.fact 45 (f := .free "int") rfl), He.free_ok X G (c.fact 46 (f := .free "isinstance") rfl), He.free_ok X G (c.fact 47 (f := .free "len") rfl), He.free_ok X G (c.fact 48 (f := .free "list") rfl), He.free_ok X G (c.fact 49 (f := .free "max") rfl), He.free_ok X G (c.fact 50 (f := .free "min") rfl), He.free_ok X G (c.fact 51 (f := .free "range") rfl), He.free_ok X G (c.fact 52 (f := .free "repr") rfl), He.free_ok X G (c.fact 53 (f := .free "str") rfl), He.free_ok X G (c.fact 54 (f := .free "tuple") rfl), He.free_ok X G (c.fact 55 (f := .free "zip") rfl), He.mkr_ok (c.fact 56 (f := .mkr "Yard") rfl), He.mkr_ok (c.fact 57 (f := .mkr "Reckoning") rfl), He.meth_ok (c.fact 58 (f := .meth "Reckoning" "__init__") rfl), He.meth_ok (c.fact 59 (f := .meth "Reckoning" "backwards") rfl), He.meth_ok (c.fact 60 (f := .meth "Reckoning" "to_towers") rfl), He.meth_ok (c.fact 61 (f := .meth "Reckoning" "from_towers") rfl), He.meth_ok (c.fact 62 (f := .meth "Reckoning" "cheapest") rfl), He.meth_ok (c.fact 63 (f := .meth "Reckoning" "told") rfl), He.meth_ok (c.fact 64 (f := .meth "Reckoning" "named") rfl), He.meth_ok (c.fact 65 (f := .meth "Yard" "__init__") rfl), He.meth_ok (c.fact 66 (f := .meth "Yard" "__len__") rfl), He.meth_ok (c.fact 67 (f := .meth "Yard" "rows") rfl), He.meth_ok (c.fact 68 (f := .meth "Yard" "reckoning") rfl), excB_ok e_InvalidArrangement, excB_ok e_InvalidYard, tuK_of (tabM cc.2 0) e_t_TURNS⟩
section
variable {P : Program} {w : World} {K : PySem.W.Frag} {mg : Str → Option Value} {base : Heap}
theorem sc_InvalidArrangement_init : FnScope ["self", "value"] ["self", "value"] (defScope s_InvalidArrangement_init) := ⟨rfl, rfl, rfl, by decide +kernel, rfl, by decide +kernel, by decide +kernel⟩
theorem okx_InvalidArrangement (C : Ct K w mg) : GoodX P w K mg base "InvalidArrangement" "value" := by
  obtain ⟨fd, F⟩ := C.says.def_ 1 (d := d_InvalidArrangement_init) rfl
  exact ⟨⟨fd, F.ok sc_InvalidArrangement_init (fun vs H Q E h => spExcI_len vs H Q E h) (fun cdv A outer s H vs Q E hr h => ⟨_, pss_one (ps_ost (pv 0) (pv 1)), read_excI C.x_InvalidArrangement h⟩), F.bindsN fun _ _ _ _ _ _ us hl => match us, hl with | [_, _], _ => rfl⟩, C.x_InvalidArrangement, C.g_InvalidArrangement⟩
theorem sc_InvalidYard_init : FnScope ["self", "value"] ["self", "value"] (defScope s_InvalidYard_init) := ⟨rfl, rfl, rfl, by decide +kernel, rfl, by decide +kernel, by decide +kernel⟩
theorem okx_InvalidYard (C : Ct K w mg) : GoodX P w K mg base "InvalidYard" "value" := by
  obtain ⟨fd, F⟩ := C.says.def_ 0 (d := d_InvalidYard_init) rfl
  exact ⟨⟨fd, F.ok sc_InvalidYard_init (fun vs H Q E h => spExcI_len vs H Q E h) (fun cdv A outer s H vs Q E hr h => ⟨_, pss_one (ps_ost (pv 0) (pv 1)), read_excI C.x_InvalidYard h⟩), F.bindsN fun _ _ _ _ _ _ us hl => match us, hl with | [_, _], _ => rfl⟩, C.x_InvalidYard, C.g_InvalidYard⟩
theorem ok__law_bag (C : Ct K w mg) : GoodO P w K mg base 1 "_law_bag" ["_law_cell_here"] (sp__law_bag K) := by
  obtain ⟨fd, F⟩ := C.says.def_ 34 (d := d__law_bag) rfl
  exact ⟨⟨fd, F.ok (k := 0) sc__law_bag (fun vs H Q E h => sp1_len vs H Q E h) (fun cdv A outer s H vs Q E hr h => ⟨t__law_bag K E, (have hu := hr.units; (pss_one (ps_ret (pe_lst (pa_cons (pe_callB (call_max2 rfl) (by rfl) C.n_max (by decide +kernel) (pa_cons pe_int (pa_cons (pe_op op_uSub (pv 0) (pe_op op_uPow pe_int pe_int)) pa_nil))) (pa_cons (pe_op op_uMod (pe_callTy call_int1 (by rfl) C.n_int (by decide +kernel) (pa_cons (pv 0) pa_nil)) pe_int) (pa_cons pe_int pa_nil))))))), read__law_bag C.F h⟩), F.bindsN fun _ _ _ _ _ _ us hl => match us, hl with | [_], _ => rfl⟩, C.g__law_bag, F.kp⟩
theorem ok__law_cell (C : Ct K w mg) : GoodO P w K mg base 1 "_law_cell" ["_law_script", "_law_k"] (sp__law_cell K) := by
  obtain ⟨fd, F⟩ := C.says.def_ 33 (d := d__law_cell) rfl
  exact ⟨⟨fd, F.ok (k := 0) sc__law_cell (fun vs H Q E h => sp2_len vs H Q E h) (fun cdv A outer s H vs Q E hr h => ⟨t__law_cell K E, (have hu := hr.units; (pss_cons (ps_set (i := 2) sc__law_cell.nd rfl (Or.inl rfl) (pe_op op_uAdd (pe_op op_uMul pe_int (pv 1)) pe_int)) (pss_one (ps_ret (pe_ifExp (pt_cmpR op_uLt (pv 1) (pe_callB call_uLen (by rfl) C.n_len boot_len (pa_cons (pv 0) pa_nil)) (by rfl)) (pe_ix ix_u (pv 0) (pv 1) (fun _ _ => rfl)) (pe_op op_uAdd (pv 2) (pe_ifExp (pt_cmpR op_uGt (pe_callB call_uLen (by rfl) C.n_len boot_len (pa_cons (pv 0) pa_nil)) pe_int (by rfl)) (pe_op op_uMod (pe_callTy call_int1 (by rfl) C.n_int (by decide +kernel) (pa_cons (pe_ix ix_u (pv 0) pe_int (fun _ _ => rfl)) pa_nil)) pe_int) pe_int))))))), read__law_cell C.F h⟩), F.bindsN fun _ _ _ _ _ _ us hl => match us, hl with | [_, _], _ => rfl⟩, C.g__law_cell, F.kp⟩
theorem ok_Yard_rows (C : Ct K w mg) : GoodM P w K mg base 1 "Yard" "rows" ["self"] (sp_Yard_rows K) := by
  obtain ⟨fd, F⟩ := C.says.def_ 22 (d := d_Yard_rows) rfl
  exact ⟨⟨fd, F.ok (k := 0) sc_Yard_rows (fun vs H Q E h => sp1_len vs H Q E h) (fun cdv A outer s H vs Q E hr h => ⟨t_Yard_rows K E, (have hu := hr.units; (pss_one (ps_ret (pe_lc (own := [("row", 1)]) (g := (gName 1)) (tt := tYes) rfl sc_Yard_rows.nd (pi_seq (pe_fld (pv 0) rfl)) (blkOk_by (N := n_Yard_rows) (sc := defScope s_Yard_rows) (by decide +kernel)) (fun _ _ _ _ _ => (pg_name (i := 1) sc_Yard_rows.nd rfl (Or.inl rfl))) (fun _ _ _ _ _ => pts_nil) (fun _ _ _ _ _ => (pe_callTy (call_uLst rfl) (by rfl) C.n_list (by decide +kernel) (pa_cons (pv 1) pa_nil))))))), read_Yard_rows C.F h⟩), F.bindsN fun _ _ _ _ _ _ us hl => match us, hl with | [_], _ => rfl⟩, C.m_Yard_rows, C.F.cl⟩
theorem ok__law_all (C : Ct K w mg) : GoodO P w K mg base 1 "_law_all" ["_law_count"] (sp__law_all K) := by
  obtain ⟨fd, F⟩ := C.says.def_ 41 (d := d__law_all) rfl
  exact ⟨⟨fd, F.ok (k := 0) sc__law_all (fun vs H Q E h => sp1_len vs H Q E h) (fun cdv A outer s H vs Q E hr h => ⟨t__law_all K E, (have hu := hr.units; (pss_cons (ps_set (i := 1) sc__law_all.nd rfl (Or.inl rfl) (pe_lst (pa_cons pe_str pa_nil))) (pss_cons (ps_for (passes_of rfl) rfl (pi_range1 (by rfl) C.n_range (pa_cons (pv 0) pa_nil)) (pg_name (i := 2) sc__law_all.nd rfl (Or.inl rfl)) (pss_cons (ps_set (i := 3) sc__law_all.nd rfl (Or.inl rfl) (pe_lst pa_nil)) (pss_cons (ps_for (passes_of rfl) rfl (pi_seq (pv 1)) (pg_name (i := 4) sc__law_all.nd rfl (Or.inr rfl)) (pss_one (ps_set (i := 3) sc__law_all.nd rfl (Or.inl rfl) (pe_op op_uAdd (pv 3) (pe_lc (own := [("_law_place", 5)]) (g := (gName 5)) (tt := tYes) rfl sc__law_all.nd (pi_str pe_str) (blkOk_by (N := n__law_all) (sc := defScope s__law_all) (by decide +kernel)) (fun _ _ _ _ _ => (pg_name (i := 5) sc__law_all.nd rfl (Or.inl rfl))) (fun _ _ _ _ _ => pts_nil) (fun _ _ _ _ _ => (pe_op op_uAdd (pv 4) (pv 5)))))))) (pss_one (ps_set (i := 1) sc__law_all.nd rfl (Or.inl rfl) (pv 3)))))) (pss_one (ps_ret (pv 1)))))), read__law_all C.F h⟩), F.bindsN fun _ _ _ _ _ _ us hl => match us, hl with | [_], _ => rfl⟩, C.g__law_all, F.kp⟩
theorem ok__law_price (C : Ct K w mg) : GoodO P w K mg base 1 "_law_price" ["_law_line", "_law_first", "_law_last"] (sp__law_price K) := by
  obtain ⟨fd, F⟩ := C.says.def_ 38 (d := d__law_price) rfl
  exact ⟨⟨fd, F.ok (k := 0) sc__law_price (fun vs H Q E h => sp3_len vs H Q E h) (fun cdv A outer s H vs Q E hr h => ⟨t__law_price K E, (have hu := hr.units; (pss_one (ps_ret (pe_ix ix_u (pv 0) (pe_bm PySem.F.plainAttrs_list PySem.F.slot_list_index PySem.F.type_list_index mt_index (pe_lst (pa_cons pe_str (pa_cons pe_str (pa_cons pe_str (pa_cons pe_str (pa_cons pe_str (pa_cons pe_str pa_nil))))))) (pa_cons (pe_op op_uAdd (pv 1) (pv 2)) pa_nil)) (fun _ _ => rfl))))), read__law_price C.F h⟩), F.bindsN fun _ _ _ _ _ _ us hl => match us, hl with | [_, _, _], _ => rfl⟩, C.g__law_price, F.kp⟩
theorem ok__law_next (C : Ct K w mg) : GoodO P w K mg base 2 "_law_next" ["_law_rows_here", "_law_word_here"] (sp__law_next K) := by
  obtain ⟨fd, F⟩ := C.says.def_ 39 (d := d__law_next) rfl
  exact ⟨⟨fd, F.ok (k := 1) sc__law_next (fun vs H Q E h => sp2_len vs H Q E h) (fun cdv A outer s H vs Q E hr h => ⟨t__law_next K E, (have hu := hr.units; (pss_cons (ps_set (i := 2) sc__law_next.nd rfl (Or.inl rfl) (pe_lst pa_nil)) (pss_cons (ps_for (passes_of rfl) rfl (pi_enumU (by rfl) C.n_enumerate (pa_cons (pv 0) pa_nil)) (pg_tup (by rfl) (pgs_cons (pg_name (i := 3) sc__law_next.nd rfl (Or.inl rfl)) (pgs_cons (pg_name (i := 4) sc__law_next.nd rfl (Or.inl rfl)) pgs_nil))) (pss_cons (ps_set (i := 5) sc__law_next.nd rfl (Or.inl rfl) (pe_slice sl_u (pv 1) (po_some (pe_op op_uAdd (pv 3) pe_int)) po_none)) (pss_one (ps_for (passes_of rfl) rfl (pi_str pe_str) (pg_name (i := 6) sc__law_next.nd rfl (Or.inl rfl)) (pss_one (ps_if (PW.pt (pw_and (pt_cmpR (op_uNe hu) (pv 6) (pe_ix ix_u (pv 1) (pv 3) (fun _ _ => rfl)) (by rfl)) (pw_and (pt_cmpR op_uNin (pe_ix ix_u (pv 1) (pv 3) (fun _ _ => rfl)) (pv 5) (by rfl)) (pw_and1 (pt_cmpR op_uNin (pv 6) (pv 5) (by rfl)))))) (pss_cons (ps_set (i := 7) sc__law_next.nd rfl (Or.inl rfl) (pe_fo (ok__law_price C) (hr.mono (by decide)) (by rfl) (passes_call (takes_of rfl rfl rfl rfl) fun _ _ _ _ h => h) (ha := (pa_cons (pv 4) (pa_cons (pe_ix ix_u (pv 1) (pv 3) (fun _ _ => rfl)) (pa_cons (pv 6) pa_nil)))))) (pss_one (ps_if (pt_cmpR op_uNis (pv 7) pe_non (by rfl)) (pss_one (ps_expr (pe_bm PySem.F.plainAttrs_list PySem.F.slot_list_append PySem.F.type_list_append mt_append (pv 2) (pa_cons (pe_tup (pa_cons (pe_op op_uAdd (pe_op op_uAdd (pe_slice sl_u (pv 1) po_none (po_some (pv 3))) (pv 6)) (pv 5)) (pa_cons (pv 7) pa_nil))) pa_nil)))) pss_nil))) pss_nil)))))) (pss_one (ps_ret (pv 2)))))), read__law_next C.F h⟩), F.bindsN fun _ _ _ _ _ _ us hl => match us, hl with | [_, _], _ => rfl⟩, C.g__law_next, F.kp⟩
theorem ok__law_far (C : Ct K w mg) : GoodO P w K mg base 3 "_law_far" ["_law_rows_here", "_law_start_now"] (sp__law_far K) := by
  obtain ⟨fd, F⟩ := C.says.def_ 40 (d := d__law_far) rfl
  exact ⟨⟨fd, F.ok (k := 2) sc__law_far (fun vs H Q E h => sp2_len vs H Q E h) (fun cdv A outer s H vs Q E hr h => ⟨t__law_far K E, (have hu := hr.units; (pss_cons (ps_asg (pe_tup (pa_cons (pe_disp (pps_cons (pv 1) pe_int pps_nil) rfl rfl (by simp) (by simp)) (pa_cons pe_dnewK pa_nil))) (pg_tup (by rfl) (pgs_cons (pg_name (i := 2) sc__law_far.nd rfl (Or.inr rfl)) (pgs_cons (pg_name (i := 3) sc__law_far.nd rfl (Or.inr rfl)) pgs_nil)))) (pss_cons (ps_while (passes_of rfl) (pt_cmpR op_uLt (pe_callB call_lenD' (by rfl) C.n_len boot_len (pa_cons (pv 3) pa_nil)) (pe_callB call_lenD' (by rfl) C.n_len boot_len (pa_cons (pv 2) pa_nil)) (by rfl)) (pss_cons (ps_set (i := 5) sc__law_far.nd rfl (Or.inl rfl) (pe_ix ix_u (pe_callB (call_minP rfl hu) (by rfl) C.n_min (by decide +kernel) (pa_cons (pe_lock (pe_lc (own := [("_law_word_here", 4)]) (g := (gName 4)) (tt := (tB (tDNotIn (tVar 4) (tVar 3)))) rfl sc__law_far.nd (pi_keys (pv 2)) (blkOk_by (N := n__law_far) (sc := defScope s__law_far) (by decide +kernel)) (fun _ _ _ _ _ => (pg_name (i := 4) sc__law_far.nd rfl (Or.inl rfl))) (fun _ _ _ _ _ => (pts_one (pt_cmp (pc_dnotin (Nat.lt_of_le_of_lt (Nat.add_le_add_left (by decide) _) hu) (pv 4) (pv 3)) (by rfl)))) (fun _ _ _ _ _ => (pe_tup (pa_cons (pe_dget (Nat.lt_of_le_of_lt (Nat.add_le_add_left (by decide) _) hu) (pv 2) (pv 4) (fun _ _ => rfl)) (pa_cons (pv 4) pa_nil)))))) pa_nil)) pe_int (fun _ _ => rfl))) (pss_cons (ps_asg (pe_dget (Nat.lt_of_le_of_lt (Nat.add_le_add_left (by decide) _) hu) (pv 2) (pv 5) (fun _ _ => rfl)) (pg_sub (pv 3) (pv 5) (set_dict (Nat.lt_of_le_of_lt (Nat.add_le_add_left (by decide) _) hu)))) (pss_one (ps_for (passes_of rfl) rfl (pi_seq (pe_fo (ok__law_next C) (hr.mono (by decide)) (by rfl) (passes_call (takes_of rfl rfl rfl rfl) fun _ _ _ _ h => h) (ha := (pa_cons (pv 0) (pa_cons (pv 5) pa_nil))))) (pg_tup (by rfl) (pgs_cons (pg_name (i := 4) sc__law_far.nd rfl (Or.inl rfl)) (pgs_cons (pg_name (i := 6) sc__law_far.nd rfl (Or.inl rfl)) pgs_nil))) (pss_cons (ps_set (i := 7) sc__law_far.nd rfl (Or.inl rfl) (pe_op op_uAdd (pe_dget (Nat.lt_of_le_of_lt (Nat.add_le_add_left (by decide) _) hu) (pv 2) (pv 5) (fun _ _ => rfl)) (pv 6))) (pss_one (ps_if (PW.pt (pw_or (pt_cmp (pc_dnotin (Nat.lt_of_le_of_lt (Nat.add_le_add_left (by decide) _) hu) (pv 4) (pv 2)) (by rfl)) (pw_or1 (pt_cmpR op_uLt (pv 7) (pe_dget (Nat.lt_of_le_of_lt (Nat.add_le_add_left (by decide) _) hu) (pv 2) (pv 4) (fun _ _ => rfl)) (by rfl))))) (pss_one (ps_asg (pv 7) (pg_sub (pv 2) (pv 4) (set_dict (Nat.lt_of_le_of_lt (Nat.add_le_add_left (by decide) _) hu))))) pss_nil)))))))) (pss_one (ps_ret (pv 3)))))), read__law_far C.F h⟩), F.bindsN fun _ _ _ _ _ _ us hl => match us, hl with | [_, _], _ => rfl⟩, C.g__law_far, F.kp⟩
theorem ok__law_take (C : Ct K w mg) : GoodO P w K mg base 1 "_law_take" ["_law_bag_here", "_law_limit"] (sp__law_take K) := by
  obtain ⟨fd, F⟩ := C.says.def_ 35 (d := d__law_take) rfl
  exact ⟨⟨fd, F.ok (k := 0) sc__law_take (fun vs H Q E h => sp2_len vs H Q E h) (fun cdv A outer s H vs Q E hr h => ⟨t__law_take K E, (have hu := hr.units; (pss_cons (ps_if (pt_cmpR op_uGt (pe_ix ix_u (pv 0) pe_int (fun _ _ => rfl)) pe_int (by rfl)) (pss_cons (ps_set (i := 2) sc__law_take.nd rfl (Or.inl rfl) (pe_op op_uMod (pe_callTy call_int1 (by rfl) C.n_int (by decide +kernel) (pa_cons (pe_ix ix_u (pv 0) pe_int (fun _ _ => rfl)) pa_nil)) (pv 1))) (pss_cons (ps_asg (pe_op op_uDiv (pe_ix ix_u (pv 0) pe_int (fun _ _ => rfl)) (pv 1)) (pg_sub (pv 0) pe_int set_list)) (pss_one (ps_ret (pv 2))))) pss_nil) (pss_cons (ps_asg (pe_op op_uAdd (pe_ix ix_u (pv 0) pe_int (fun _ _ => rfl)) pe_int) (pg_sub (pv 0) pe_int set_list)) (pss_cons (ps_set (i := 3) sc__law_take.nd rfl (Or.inl rfl) (pe_op op_uMod (pe_op op_uPow (pe_callTy call_int1 (by rfl) C.n_int (by decide +kernel) (pa_cons (pe_op op_uAdd (pe_op op_uAdd (pe_ix ix_u (pv 0) pe_int (fun _ _ => rfl)) (pe_op op_uMul pe_int (pe_ix ix_u (pv 0) pe_int (fun _ _ => rfl)))) pe_int) pa_nil)) pe_int) pe_int)) (pss_cons (ps_set (i := 3) sc__law_take.nd rfl (Or.inl rfl) (pe_op op_uMod (pe_op op_uPow (pe_callTy call_int1 (by rfl) C.n_int (by decide +kernel) (pa_cons (pe_op op_uAdd (pv 3) (pe_op op_uMul pe_int (pe_ix ix_u (pv 0) pe_int (fun _ _ => rfl)))) pa_nil)) pe_int) pe_int)) (pss_one (ps_ret (pe_op op_uMod (pe_callTy call_int1 (by rfl) C.n_int (by decide +kernel) (pa_cons (pe_op op_uDiv (pv 3) pe_int) pa_nil)) (pv 1))))))))), read__law_take C.F h⟩), F.bindsN fun _ _ _ _ _ _ us hl => match us, hl with | [_, _], _ => rfl⟩, C.g__law_take, F.kp⟩
theorem ok__law_rows (C : Ct K w mg) : GoodO P w K mg base 2 "_law_rows" ["_law_bag_here", "_law_most"] (sp__law_rows K) := by
  obtain ⟨fd, F⟩ := C.says.def_ 36 (d := d__law_rows) rfl
  exact ⟨⟨fd, F.ok (k := 1) sc__law_rows (fun vs H Q E h => sp2_len vs H Q E h) (fun cdv A outer s H vs Q E hr h => ⟨t__law_rows K E, (have hu := hr.units; (pss_cons (ps_par (by rfl) sc__law_rows.nd rfl rfl (by decide) rfl rfl (pa_cons (pe_fo (ok__law_take C) (hr.mono (by decide)) (by rfl) (passes_call (takes_of rfl rfl rfl rfl) fun _ _ _ _ h => h) (ha := (pa_cons (pv 0) (pa_cons pe_int pa_nil)))) (pa_cons (pe_ix ix_u (pe_lst (pa_cons pe_int (pa_cons pe_int (pa_cons pe_int (pa_cons pe_int pa_nil))))) (pe_fo (ok__law_take C) (hr.mono (by decide)) (by rfl) (passes_call (takes_of rfl rfl rfl rfl) fun _ _ _ _ h => h) (ha := (pa_cons (pv 0) (pa_cons pe_int pa_nil)))) (fun _ _ => rfl)) pa_nil)) (by rfl)) (pss_cons (ps_set (i := 4) sc__law_rows.nd rfl (Or.inl rfl) (pe_lst pa_nil)) (pss_cons (ps_for (passes_of rfl) rfl (pi_range1 (by rfl) C.n_range (pa_cons (pe_op op_uAdd pe_int (pe_fo (ok__law_take C) (hr.mono (by decide)) (by rfl) (passes_call (takes_of rfl rfl rfl rfl) fun _ _ _ _ h => h) (ha := (pa_cons (pv 0) (pa_cons (pv 1) pa_nil))))) pa_nil)) (pg_name (i := 5) sc__law_rows.nd rfl (Or.inl rfl)) (pss_cons (ps_set (i := 6) sc__law_rows.nd rfl (Or.inl rfl) (pe_lst pa_nil)) (pss_cons (ps_for (passes_of rfl) rfl (pi_range1 (by rfl) C.n_range (pa_cons pe_int pa_nil)) (pg_name (i := 7) sc__law_rows.nd rfl (Or.inl rfl)) (pss_cons (ps_set (i := 8) sc__law_rows.nd rfl (Or.inl rfl) (pe_ix ix_u (pe_lst (pa_cons pe_int (pa_cons (pe_op op_uAdd pe_int (pe_fo (ok__law_take C) (hr.mono (by decide)) (by rfl) (passes_call (takes_of rfl rfl rfl rfl) fun _ _ _ _ h => h) (ha := (pa_cons (pv 0) (pa_cons pe_int pa_nil))))) (pa_cons (pe_op op_uAdd pe_int (pe_fo (ok__law_take C) (hr.mono (by decide)) (by rfl) (passes_call (takes_of rfl rfl rfl rfl) fun _ _ _ _ h => h) (ha := (pa_cons (pv 0) (pa_cons pe_int pa_nil))))) (pa_cons (pe_op op_uAdd pe_int (pe_fo (ok__law_take C) (hr.mono (by decide)) (by rfl) (passes_call (takes_of rfl rfl rfl rfl) fun _ _ _ _ h => h) (ha := (pa_cons (pv 0) (pa_cons (pe_op op_uPow pe_int pe_int) pa_nil))))) (pa_cons (pe_op op_uSub (pe_op op_uPow pe_int pe_int) (pe_fo (ok__law_take C) (hr.mono (by decide)) (by rfl) (passes_call (takes_of rfl rfl rfl rfl) fun _ _ _ _ h => h) (ha := (pa_cons (pv 0) (pa_cons pe_int pa_nil))))) pa_nil)))))) (pv 2) (fun _ _ => rfl))) (pss_one (ps_expr (pe_bm PySem.F.plainAttrs_list PySem.F.slot_list_append PySem.F.type_list_append mt_append (pv 6) (pa_cons (pe_ifExp (PW.pt (pw_and (pt_cmpR op_uGt (pv 3) pe_int (by rfl)) (pw_and1 (pt_cmpR (op_uEq hu) (pe_fo (ok__law_take C) (hr.mono (by decide)) (by rfl) (passes_call (takes_of rfl rfl rfl rfl) fun _ _ _ _ h => h) (ha := (pa_cons (pv 0) (pa_cons (pv 3) pa_nil)))) pe_int (by rfl))))) pe_non (pv 8)) pa_nil)))))) (pss_one (ps_expr (pe_bm PySem.F.plainAttrs_list PySem.F.slot_list_append PySem.F.type_list_append mt_append (pv 4) (pa_cons (pv 6) pa_nil))))))) (pss_one (ps_ret (pv 4))))))), read__law_rows C.F h⟩), F.bindsN fun _ _ _ _ _ _ us hl => match us, hl with | [_, _], _ => rfl⟩, C.g__law_rows, F.kp⟩
theorem ok__law_word (C : Ct K w mg) : GoodO P w K mg base 2 "_law_word" ["_law_bag_here", "_law_count"] (sp__law_word K) := by
  obtain ⟨fd, F⟩ := C.says.def_ 37 (d := d__law_word) rfl
  exact ⟨⟨fd, F.ok (k := 1) sc__law_word (fun vs H Q E h => sp2_len vs H Q E h) (fun cdv A outer s H vs Q E hr h => ⟨t__law_word K E, (have hu := hr.units; (pss_one (ps_ret (pe_joinU pe_str (pe_lc (own := [("_law_crate", 2)]) (g := (gName 2)) (tt := tYes) rfl sc__law_word.nd (pi_range1 (by rfl) C.n_range (pa_cons (pv 1) pa_nil)) (blkOk_by (N := n__law_word) (sc := defScope s__law_word) (by decide +kernel)) (fun _ _ _ _ _ => (pg_name (i := 2) sc__law_word.nd rfl (Or.inl rfl))) (fun _ _ _ _ _ => pts_nil) (fun _ _ _ _ _ => (pe_ix ix_u pe_str (pe_fo (ok__law_take C) (hr.mono (by decide)) (by rfl) passL (ha := (pa_cons (pv 0) (pa_cons pe_int pa_nil)))) (fun _ _ => rfl)))))))), read__law_word C.F h⟩), F.bindsN fun _ _ _ _ _ _ us hl => match us, hl with | [_, _], _ => rfl⟩, C.g__law_word, F.kp⟩
theorem ok_turned (C : Ct K w mg) : GoodO P w K mg base 1 "turned" ["six"] (sp_turned K) := by
  obtain ⟨fd, F⟩ := C.says.def_ 6 (d := d_turned) rfl
  exact ⟨⟨fd, F.ok (k := 0) sc_turned (fun vs H Q E h => sp1_len vs H Q E h) (fun cdv A outer s H vs Q E hr h => ⟨t_turned K E, (have hu := hr.units; (pss_cons (ps_asg (pv 0) (pg_tup (by rfl) (pgs_cons (pg_name (i := 1) sc_turned.nd rfl (Or.inl rfl)) (pgs_cons (pg_name (i := 2) sc_turned.nd rfl (Or.inl rfl)) (pgs_cons (pg_name (i := 3) sc_turned.nd rfl (Or.inl rfl)) (pgs_cons (pg_name (i := 4) sc_turned.nd rfl (Or.inl rfl)) (pgs_cons (pg_name (i := 5) sc_turned.nd rfl (Or.inl rfl)) (pgs_cons (pg_name (i := 6) sc_turned.nd rfl (Or.inl rfl)) pgs_nil)))))))) (pss_one (ps_ret (pe_tup (pa_cons (pv 3) (pa_cons (pv 5) (pa_cons (pv 1) (pa_cons (pv 6) (pa_cons (pv 2) (pa_cons (pv 4) pa_nil))))))))))), read_turned C.F h⟩), F.bindsN fun _ _ _ _ _ _ us hl => match us, hl with | [_], _ => rfl⟩, C.g_turned, F.kp⟩
theorem ok_Reckoning_init (C : Ct K w mg) : GoodM P w K mg base 1 "Reckoning" "__init__" ["self", "bound", "prices", "towers"] (sp_Reckoning_init K) := by
  obtain ⟨fd, F⟩ := C.says.def_ 9 (d := d_Reckoning_init) rfl
  exact ⟨⟨fd, F.ok (k := 0) sc_Reckoning_init (fun vs H Q E h => sp4_len vs H Q E h) (fun cdv A outer s H vs Q E hr h => ⟨t_Reckoning_init K E, (have hu := hr.units; (pss_cons (ps_fld (pv 0) (pv 1) rfl) (pss_cons (ps_fld (pv 0) (pv 2) rfl) (pss_cons (ps_fld (pv 0) (pv 3) rfl) (pss_one (ps_fld (pv 0) pe_non rfl)))))), read_Reckoning_init C.F C.kr h⟩), F.bindsN fun _ _ _ _ _ _ us hl => match us, hl with | [_, _, _, _], _ => rfl⟩, C.m_Reckoning_init, C.kr.cl⟩
theorem ok_Reckoning_backwards (C : Ct K w mg) : GoodM P w K mg base 3 "Reckoning" "backwards" ["self"] (sp_Reckoning_backwards K) := by
  obtain ⟨fd, F⟩ := C.says.def_ 10 (d := d_Reckoning_backwards) rfl
  exact ⟨⟨fd, F.ok (k := 2) sc_Reckoning_backwards (fun vs H Q E h => sp1_len vs H Q E h) (fun cdv A outer s H vs Q E hr h => ⟨t_Reckoning_backwards K E, (have hu := hr.units; (pss_cons (ps_if (pt_cmpR op_uIs (pe_fld (pv 0) rfl) pe_non (by rfl)) (pss_cons (ps_setLc (i := 1) (own := [("six", 2)]) (g := (gName 2)) (tt := tYes) rfl sc_Reckoning_backwards.nd rfl rfl (by exact sw_true rfl rfl rfl (by decide +kernel)) (pi_seq (pe_fld (pv 0) rfl)) (blkOk_by (N := n_Reckoning_backwards) (sc := defScope s_Reckoning_backwards) (by decide +kernel)) (fun _ _ _ _ _ => (pg_name (i := 2) sc_Reckoning_backwards.nd rfl (Or.inl rfl))) (fun _ _ _ _ _ => pts_nil) (fun _ _ _ _ _ => (pe_fo (ok_turned C) (hr.mono (by decide)) (by rfl) passL (ha := (pa_cons (pv 2) pa_nil))))) (pss_one (ps_fld (pv 0) (pe_mk (ok_Reckoning_init C) C.mk_Reckoning C.g_Reckoning (hr.mono (by decide)) (by rfl) (passes_call (takes_of rfl rfl rfl rfl) fun _ _ _ _ h => h) (ha := (pa_cons (pe_fld (pv 0) rfl) (pa_cons (pv 1) (pa_cons (pe_lc (own := [("six", 2)]) (g := (gName 2)) (tt := tYes) rfl sc_Reckoning_backwards.nd (pi_seq (pe_fld (pv 0) rfl)) (blkOk_by (N := n_Reckoning_backwards) (sc := defScope s_Reckoning_backwards) (by decide +kernel)) (fun _ _ _ _ _ => (pg_name (i := 2) sc_Reckoning_backwards.nd rfl (Or.inl rfl))) (fun _ _ _ _ _ => pts_nil) (fun _ _ _ _ _ => (pe_fo (ok_turned C) (hr.mono (by decide)) (by rfl) passL (ha := (pa_cons (pv 2) pa_nil))))) pa_nil))))) rfl))) pss_nil) (pss_one (ps_ret (pe_fld (pv 0) rfl))))), read_Reckoning_backwards C.F C.kr h⟩), F.bindsN fun _ _ _ _ _ _ us hl => match us, hl with | [_], _ => rfl⟩, C.m_Reckoning_backwards, C.kr.cl⟩
theorem ok__from_place (C : Ct K w mg) : GoodO P w K mg base 1 "_from_place" ["place", "prices", "towers", "below"] (sp__from_place K) := by
  obtain ⟨fd, F⟩ := C.says.def_ 5 (d := d__from_place) rfl
  exact ⟨⟨fd, F.ok (k := 0) sc__from_place (fun vs H Q E h => sp4_len vs H Q E h) (fun cdv A outer s H vs Q E hr h => ⟨t__from_place K E, (have hu := hr.units; (pss_cons (ps_asg (pv 2) (pg_tup (by rfl) (pgs_cons (pg_name (i := 4) sc__from_place.nd rfl (Or.inl rfl)) (pgs_cons (pg_name (i := 5) sc__from_place.nd rfl (Or.inl rfl)) (pgs_cons (pg_name (i := 6) sc__from_place.nd rfl (Or.inl rfl)) (pgs_cons (pg_name (i := 7) sc__from_place.nd rfl (Or.inl rfl)) (pgs_cons (pg_name (i := 8) sc__from_place.nd rfl (Or.inl rfl)) (pgs_cons (pg_name (i := 9) sc__from_place.nd rfl (Or.inl rfl)) pgs_nil)))))))) (pss_cons (ps_asg (pv 1) (pg_tup (by rfl) (pgs_cons (pg_name (i := 10) sc__from_place.nd rfl (Or.inl rfl)) (pgs_cons (pg_name (i := 11) sc__from_place.nd rfl (Or.inl rfl)) (pgs_cons (pg_name (i := 12) sc__from_place.nd rfl (Or.inl rfl)) (pgs_cons (pg_name (i := 13) sc__from_place.nd rfl (Or.inl rfl)) (pgs_cons (pg_name (i := 14) sc__from_place.nd rfl (Or.inl rfl)) (pgs_cons (pg_name (i := 15) sc__from_place.nd rfl (Or.inl rfl)) pgs_nil)))))))) (pss_cons (ps_asg (pv 3) (pg_tup (by rfl) (pgs_cons (pg_name (i := 16) sc__from_place.nd rfl (Or.inl rfl)) (pgs_cons (pg_name (i := 17) sc__from_place.nd rfl (Or.inl rfl)) (pgs_cons (pg_name (i := 18) sc__from_place.nd rfl (Or.inl rfl)) pgs_nil))))) (pss_cons (ps_if (pt_cmpR (op_uEq hu) (pv 0) pe_str (by rfl)) (pss_one (ps_ret (pe_tup (pa_cons (pv 16) (pa_cons (pe_callB (call_min2 rfl) (by rfl) C.n_min (by decide +kernel) (pa_cons (pe_op op_uAdd (pe_op op_uAdd (pv 18) (pv 10)) (pv 9)) (pa_cons (pe_op op_uAdd (pe_op op_uAdd (pe_op op_uAdd (pe_op op_uAdd (pv 17) (pv 11)) (pv 6)) (pv 15)) (pv 4)) pa_nil))) (pa_cons (pe_callB (call_min2 rfl) (by rfl) C.n_min (by decide +kernel) (pa_cons (pe_op op_uAdd (pe_op op_uAdd (pv 17) (pv 11)) (pv 7)) (pa_cons (pe_op op_uAdd (pe_op op_uAdd (pe_op op_uAdd (pe_op op_uAdd (pv 18) (pv 10)) (pv 8)) (pv 13)) (pv 5)) pa_nil))) pa_nil)))))) pss_nil) (pss_cons (ps_if (pt_cmpR (op_uEq hu) (pv 0) pe_str (by rfl)) (pss_one (ps_ret (pe_tup (pa_cons (pe_callB (call_min2 rfl) (by rfl) C.n_min (by decide +kernel) (pa_cons (pe_op op_uAdd (pe_op op_uAdd (pv 18) (pv 12)) (pv 8)) (pa_cons (pe_op op_uAdd (pe_op op_uAdd (pe_op op_uAdd (pe_op op_uAdd (pv 16) (pv 13)) (pv 4)) (pv 14)) (pv 6)) pa_nil))) (pa_cons (pv 17) (pa_cons (pe_callB (call_min2 rfl) (by rfl) C.n_min (by decide +kernel) (pa_cons (pe_op op_uAdd (pe_op op_uAdd (pv 16) (pv 13)) (pv 5)) (pa_cons (pe_op op_uAdd (pe_op op_uAdd (pe_op op_uAdd (pe_op op_uAdd (pv 18) (pv 12)) (pv 9)) (pv 11)) (pv 7)) pa_nil))) pa_nil)))))) pss_nil) (pss_one (ps_ret (pe_tup (pa_cons (pe_callB (call_min2 rfl) (by rfl) C.n_min (by decide +kernel) (pa_cons (pe_op op_uAdd (pe_op op_uAdd (pv 17) (pv 14)) (pv 6)) (pa_cons (pe_op op_uAdd (pe_op op_uAdd (pe_op op_uAdd (pe_op op_uAdd (pv 16) (pv 15)) (pv 5)) (pv 12)) (pv 8)) pa_nil))) (pa_cons (pe_callB (call_min2 rfl) (by rfl) C.n_min (by decide +kernel) (pa_cons (pe_op op_uAdd (pe_op op_uAdd (pv 16) (pv 15)) (pv 4)) (pa_cons (pe_op op_uAdd (pe_op op_uAdd (pe_op op_uAdd (pe_op op_uAdd (pv 17) (pv 14)) (pv 7)) (pv 10)) (pv 9)) pa_nil))) (pa_cons (pv 18) pa_nil)))))))))))), read__from_place C.F h⟩), F.bindsN fun _ _ _ _ _ _ us hl => match us, hl with | [_, _, _, _], _ => rfl⟩, C.g__from_place, F.kp⟩
theorem ok_to_towers_above (C : Ct K w mg) : GoodO P w K mg base 2 "to_towers_above" ["places", "prices", "towers", "below"] (sp_to_towers_above K) := by
  obtain ⟨fd, F⟩ := C.says.def_ 4 (d := d_to_towers_above) rfl
  exact ⟨⟨fd, F.ok (k := 1) sc_to_towers_above (fun vs H Q E h => sp4_len vs H Q E h) (fun cdv A outer s H vs Q E hr h => ⟨t_to_towers_above K E, (have hu := hr.units; (pss_cons (ps_if (pt_cmpR (op_uEq hu) (pe_callB call_uLen (by rfl) C.n_len boot_len (pa_cons (pv 0) pa_nil)) pe_int (by rfl)) (pss_one (ps_ret (pe_fo (ok__from_place C) (hr.mono (by decide)) (by rfl) (passes_call (takes_of rfl rfl rfl rfl) fun _ _ _ _ h => h) (ha := (pa_cons (pv 0) (pa_cons (pv 1) (pa_cons (pv 2) (pa_cons (pv 3) pa_nil)))))))) pss_nil) (pss_cons (ps_setLc (i := 4) (own := [("place", 5)]) (g := (gName 5)) (tt := tYes) rfl sc_to_towers_above.nd rfl rfl (by exact sw_true rfl rfl rfl (by decide +kernel)) (pi_seq (pv 0)) (blkOk_by (N := n_to_towers_above) (sc := defScope s_to_towers_above) (by decide +kernel)) (fun _ _ _ _ _ => (pg_name (i := 5) sc_to_towers_above.nd rfl (Or.inl rfl))) (fun _ _ _ _ _ => pts_nil) (fun _ _ _ _ _ => (pe_fo (ok__from_place C) (hr.mono (by decide)) (by rfl) passL (ha := (pa_cons (pv 5) (pa_cons (pv 1) (pa_cons (pv 2) (pa_cons (pv 3) pa_nil)))))))) (pss_one ps_never)))), read_to_towers_above C.F h⟩), F.bindsN fun _ _ _ _ _ _ us hl => match us, hl with | [_, _, _, _], _ => rfl⟩, C.g_to_towers_above, F.kp⟩
theorem ok_Reckoning_to_towers (C : Ct K w mg) : GoodM P w K mg base 3 "Reckoning" "to_towers" ["self", "starts"] (sp_Reckoning_to_towers K) := by
  obtain ⟨fd, F⟩ := C.says.def_ 11 (d := d_Reckoning_to_towers) rfl
  exact ⟨⟨fd, F.ok (k := 2) sc_Reckoning_to_towers (fun vs H Q E h => sp2_len vs H Q E h) (fun cdv A outer s H vs Q E hr h => ⟨t_Reckoning_to_towers K E, (have hu := hr.units; (pss_cons (ps_set (i := 2) sc_Reckoning_to_towers.nd rfl (Or.inl rfl) (pe_lst (pa_cons (pe_tup (pa_cons pe_int (pa_cons pe_int (pa_cons pe_int pa_nil)))) pa_nil))) (pss_cons (ps_for (passes_of rfl) rfl (pi_zip3 (by rfl) C.n_zip (pa_cons (pe_revS (pv 1)) (pa_cons (pe_fld (pv 0) rfl) (pa_cons (pe_fld (pv 0) rfl) pa_nil)))) (pg_tup (by rfl) (pgs_cons (pg_name (i := 3) sc_Reckoning_to_towers.nd rfl (Or.inl rfl)) (pgs_cons (pg_name (i := 4) sc_Reckoning_to_towers.nd rfl (Or.inl rfl)) (pgs_cons (pg_name (i := 5) sc_Reckoning_to_towers.nd rfl (Or.inl rfl)) pgs_nil)))) (pss_one (ps_expr (pe_bm PySem.F.plainAttrs_list PySem.F.slot_list_append PySem.F.type_list_append mt_append (pv 2) (pa_cons (pe_fo (ok_to_towers_above C) (hr.mono (by decide)) (by rfl) (passes_call (takes_of rfl rfl rfl rfl) fun _ _ _ _ h => h) (ha := (pa_cons (pv 3) (pa_cons (pv 4) (pa_cons (pv 5) (pa_cons (pe_ix ix_u (pv 2) (pe_un un_neg pe_int) (fun _ _ => rfl)) pa_nil)))))) pa_nil))))) (pss_one (ps_ret (pv 2)))))), read_Reckoning_to_towers C.F C.kr h⟩), F.bindsN fun _ _ _ _ _ _ us hl => match us, hl with | [_, _], _ => rfl⟩, C.m_Reckoning_to_towers, C.kr.cl⟩
theorem ok_Reckoning_from_towers (C : Ct K w mg) : GoodM P w K mg base 4 "Reckoning" "from_towers" ["self", "goals"] (sp_Reckoning_from_towers K) := by
  obtain ⟨fd, F⟩ := C.says.def_ 12 (d := d_Reckoning_from_towers) rfl
  exact ⟨⟨fd, F.ok (k := 3) sc_Reckoning_from_towers (fun vs H Q E h => sp2_len vs H Q E h) (fun cdv A outer s H vs Q E hr h => ⟨t_Reckoning_from_towers K E, (have hu := hr.units; (pss_one (ps_ret (Exists.elim (ok_Reckoning_to_towers C).fn fun _ z => pe_meth (Exists.elim (ok_Reckoning_backwards C).fn fun _ z => pe_meth0 (pv 0) (ok_Reckoning_backwards (P := P) (base := base) C).cl (ok_Reckoning_backwards (P := P) (base := base) C).mt z.1 (hr.mono (by decide)) z.2 .nil (passes_call (takes_of rfl rfl rfl rfl) fun _ _ _ _ h => h)) (ok_Reckoning_to_towers (P := P) (base := base) C).cl (ok_Reckoning_to_towers (P := P) (base := base) C).mt z.1 (hr.mono (by decide)) z.2 .nil (passes_call (takes_of rfl rfl rfl rfl) fun _ _ _ _ h => h) (pa_cons (pv 1) pa_nil))))), read_Reckoning_from_towers C.F C.kr h⟩), F.bindsN fun _ _ _ _ _ _ us hl => match us, hl with | [_, _], _ => rfl⟩, C.m_Reckoning_from_towers, C.kr.cl⟩
theorem ok_Reckoning_named (C : Ct K w mg) : GoodM P w K mg base 1 "Reckoning" "named" ["self", "names", "numbers"] (sp_Reckoning_named K) := by
  obtain ⟨fd, F⟩ := C.says.def_ 15 (d := d_Reckoning_named) rfl
  exact ⟨⟨fd, F.ok (k := 0) sc_Reckoning_named (fun vs H Q E h => sp3_len vs H Q E h) (fun cdv A outer s H vs Q E hr h => ⟨t_Reckoning_named K E, (have hu := hr.units; (pss_cons (ps_set (i := 3) sc_Reckoning_named.nd rfl (Or.inr rfl) (pe_fld (pv 0) rfl)) (pss_one (ps_ret (pe_dc (own := [("name", 4), ("number", 5)]) (g := (gTup K 2 (gCons (gName 4) (gCons (gName 5) gNil)))) (tt := tYes) rfl sc_Reckoning_named.nd (pi_zipV (by rfl) C.n_zip (pa_cons (pv 1) (pa_cons (pv 2) pa_nil))) (blkOk_by (N := n_Reckoning_named) (sc := defScope s_Reckoning_named) (by decide +kernel)) (fun _ _ _ _ _ => (pg_tup (by rfl) (pgs_cons (pg_name (i := 4) sc_Reckoning_named.nd rfl (Or.inl rfl)) (pgs_cons (pg_name (i := 5) sc_Reckoning_named.nd rfl (Or.inl rfl)) pgs_nil)))) (fun _ _ _ _ _ => pts_nil) (fun _ _ _ _ _ => (pv 4)) (fun _ _ _ _ _ => (pe_ifExp (pt_cmpR op_uLt (pv 5) (pv 3) (by rfl)) (pv 5) pe_non))))))), read_Reckoning_named C.F C.kr h⟩), F.bindsN fun _ _ _ _ _ _ us hl => match us, hl with | [_, _, _], _ => rfl⟩, C.m_Reckoning_named, C.kr.cl⟩
theorem ok_towers_above (C : Ct K w mg) : GoodO P w K mg base 1 "towers_above" ["prices", "below"] (sp_towers_above K) := by
  obtain ⟨fd, F⟩ := C.says.def_ 3 (d := d_towers_above) rfl
  exact ⟨⟨fd, F.ok (k := 0) sc_towers_above (fun vs H Q E h => sp2_len vs H Q E h) (fun cdv A outer s H vs Q E hr h => ⟨t_towers_above K E, (have hu := hr.units; (pss_cons (ps_asg (pv 1) (pg_tup (by rfl) (pgs_cons (pg_name (i := 2) sc_towers_above.nd rfl (Or.inl rfl)) (pgs_cons (pg_name (i := 3) sc_towers_above.nd rfl (Or.inl rfl)) (pgs_cons (pg_name (i := 4) sc_towers_above.nd rfl (Or.inl rfl)) (pgs_cons (pg_name (i := 5) sc_towers_above.nd rfl (Or.inl rfl)) (pgs_cons (pg_name (i := 6) sc_towers_above.nd rfl (Or.inl rfl)) (pgs_cons (pg_name (i := 7) sc_towers_above.nd rfl (Or.inl rfl)) pgs_nil)))))))) (pss_cons (ps_asg (pv 0) (pg_tup (by rfl) (pgs_cons (pg_name (i := 8) sc_towers_above.nd rfl (Or.inl rfl)) (pgs_cons (pg_name (i := 9) sc_towers_above.nd rfl (Or.inl rfl)) (pgs_cons (pg_name (i := 10) sc_towers_above.nd rfl (Or.inl rfl)) (pgs_cons (pg_name (i := 11) sc_towers_above.nd rfl (Or.inl rfl)) (pgs_cons (pg_name (i := 12) sc_towers_above.nd rfl (Or.inl rfl)) (pgs_cons (pg_name (i := 13) sc_towers_above.nd rfl (Or.inl rfl)) pgs_nil)))))))) (pss_one (ps_ret (pe_tup (pa_cons (pe_callB (call_min2 rfl) (by rfl) C.n_min (by decide +kernel) (pa_cons (pe_op op_uAdd (pe_op op_uAdd (pv 3) (pv 8)) (pv 7)) (pa_cons (pe_op op_uAdd (pe_op op_uAdd (pe_op op_uAdd (pe_op op_uAdd (pv 2) (pv 9)) (pv 4)) (pv 13)) (pv 2)) pa_nil))) (pa_cons (pe_callB (call_min2 rfl) (by rfl) C.n_min (by decide +kernel) (pa_cons (pe_op op_uAdd (pe_op op_uAdd (pv 2) (pv 9)) (pv 5)) (pa_cons (pe_op op_uAdd (pe_op op_uAdd (pe_op op_uAdd (pe_op op_uAdd (pv 3) (pv 8)) (pv 6)) (pv 11)) (pv 3)) pa_nil))) (pa_cons (pe_callB (call_min2 rfl) (by rfl) C.n_min (by decide +kernel) (pa_cons (pe_op op_uAdd (pe_op op_uAdd (pv 5) (pv 10)) (pv 6)) (pa_cons (pe_op op_uAdd (pe_op op_uAdd (pe_op op_uAdd (pe_op op_uAdd (pv 4) (pv 11)) (pv 2)) (pv 12)) (pv 4)) pa_nil))) (pa_cons (pe_callB (call_min2 rfl) (by rfl) C.n_min (by decide +kernel) (pa_cons (pe_op op_uAdd (pe_op op_uAdd (pv 4) (pv 11)) (pv 3)) (pa_cons (pe_op op_uAdd (pe_op op_uAdd (pe_op op_uAdd (pe_op op_uAdd (pv 5) (pv 10)) (pv 7)) (pv 9)) (pv 5)) pa_nil))) (pa_cons (pe_callB (call_min2 rfl) (by rfl) C.n_min (by decide +kernel) (pa_cons (pe_op op_uAdd (pe_op op_uAdd (pv 7) (pv 12)) (pv 4)) (pa_cons (pe_op op_uAdd (pe_op op_uAdd (pe_op op_uAdd (pe_op op_uAdd (pv 6) (pv 13)) (pv 3)) (pv 10)) (pv 6)) pa_nil))) (pa_cons (pe_callB (call_min2 rfl) (by rfl) C.n_min (by decide +kernel) (pa_cons (pe_op op_uAdd (pe_op op_uAdd (pv 6) (pv 13)) (pv 2)) (pa_cons (pe_op op_uAdd (pe_op op_uAdd (pe_op op_uAdd (pe_op op_uAdd (pv 7) (pv 12)) (pv 5)) (pv 8)) (pv 7)) pa_nil))) pa_nil)))))))))))), read_towers_above C.F h⟩), F.bindsN fun _ _ _ _ _ _ us hl => match us, hl with | [_, _], _ => rfl⟩, C.g_towers_above, F.kp⟩
theorem ok_without_bars (C : Ct K w mg) : GoodO P w K mg base 1 "without_bars" ["rows", "bound"] (sp_without_bars K) := by
  obtain ⟨fd, F⟩ := C.says.def_ 8 (d := d_without_bars) rfl
  exact ⟨⟨fd, F.ok (k := 0) sc_without_bars (fun vs H Q E h => sp2_len vs H Q E h) (fun cdv A outer s H vs Q E hr h => ⟨t_without_bars K E, (have hu := hr.units; (pss_one (ps_ret (pe_lc (own := [("row", 2)]) (g := (gName 2)) (tt := tYes) rfl sc_without_bars.nd (pi_seq (pe_revU (pv 0))) (blkOk_by (N := n_without_bars) (sc := defScope s_without_bars) (by decide +kernel)) (fun _ _ _ _ _ => (pg_name (i := 2) sc_without_bars.nd rfl (Or.inl rfl))) (fun _ _ _ _ _ => pts_nil) (fun _ _ _ _ _ => (pe_ifExp (pt_cmpR op_uIn pe_non (pv 2) (by rfl)) (pe_callTy (call_uTup rfl) (by rfl) C.n_tuple (by decide +kernel) (pa_cons (pe_lc (own := [("price", 3)]) (g := (gName 3)) (tt := tYes) rfl sc_without_bars.nd (pi_seq (pv 2)) (blkOk_by (N := n_without_bars) (sc := ({ kind := .function, names := [(".0", .local), ("row", .local), ("tuple", .globalImplicit), ("bound", .cell)], isGenerator := false, isCoroutine := false } : Scope)) (by decide +kernel)) (fun _ _ _ _ _ => (pg_name (i := 3) sc_without_bars.nd rfl (Or.inl rfl))) (fun _ _ _ _ _ => pts_nil) (fun _ _ _ _ _ => (pe_ifExp (pt_cmpR op_uIs (pv 3) pe_non (by rfl)) (pv 1) (pv 3)))) pa_nil)) (pv 2))))))), read_without_bars C.F h⟩), F.bindsN fun _ _ _ _ _ _ us hl => match us, hl with | [_, _], _ => rfl⟩, C.g_without_bars, F.kp⟩
theorem ok_reckoning_of (C : Ct K w mg) : GoodO P w K mg base 3 "reckoning_of" ["rows"] (sp_reckoning_of K) := by
  obtain ⟨fd, F⟩ := C.says.def_ 7 (d := d_reckoning_of) rfl
  exact ⟨⟨fd, F.ok (k := 2) sc_reckoning_of (fun vs H Q E h => sp1_len vs H Q E h) (fun cdv A outer s H vs Q E hr h => ⟨t_reckoning_of K E, (have hu := hr.units; (pss_cons (ps_set (i := 1) sc_reckoning_of.nd rfl (Or.inl rfl) (pe_callBK (call_maxDf rfl hu) (by rfl) C.n_max (by decide +kernel) (pa_cons (pe_lc2 (own := [("row", 6), ("price", 7)]) (vs1 := [7]) rfl sc_reckoning_of.nd (pi_seq (pv 0)) (blkOk_by (N := n_reckoning_of) (sc := defScope s_reckoning_of) (by decide +kernel)) (by decide) (fun _ _ _ _ _ => (pg_name (i := 6) sc_reckoning_of.nd rfl (Or.inl rfl))) (fun _ _ _ _ _ => pts_nil) (fun _ _ _ _ _ => (pi_seq (pv 6))) (fun _ _ _ _ _ => (pg_name (i := 7) sc_reckoning_of.nd rfl (Or.inl rfl))) (fun _ _ _ _ _ => (pts_one (pt_cmpR op_uNis (pv 7) pe_non (by rfl)))) (fun _ _ _ _ _ => (pv 7))) pa_nil) (pk_cons pe_int pk_nil))) (pss_cons (ps_set (i := 2) sc_reckoning_of.nd rfl (Or.inl rfl) (pe_op op_uShl (pv 1) (pe_op op_uMul pe_int (pe_callB call_uLen (by rfl) C.n_len boot_len (pa_cons (pv 0) pa_nil))))) (pss_cons (ps_set (i := 3) sc_reckoning_of.nd rfl (Or.inl rfl) (pe_fo (ok_without_bars C) (hr.mono (by decide)) (by rfl) (passes_call (takes_of rfl rfl rfl rfl) fun _ _ _ _ h => h) (ha := (pa_cons (pv 0) (pa_cons (pv 2) pa_nil))))) (pss_cons (ps_set (i := 4) sc_reckoning_of.nd rfl (Or.inl rfl) (pe_lst (pa_cons (pe_tup (pa_cons pe_int (pa_cons pe_int (pa_cons pe_int (pa_cons pe_int (pa_cons pe_int (pa_cons pe_int pa_nil))))))) pa_nil))) (pss_cons (ps_for (passes_of rfl) rfl (pi_seq (pv 3)) (pg_name (i := 5) sc_reckoning_of.nd rfl (Or.inl rfl)) (pss_one (ps_expr (pe_bm PySem.F.plainAttrs_list PySem.F.slot_list_append PySem.F.type_list_append mt_append (pv 4) (pa_cons (pe_fo (ok_towers_above C) (hr.mono (by decide)) (by rfl) (passes_call (takes_of rfl rfl rfl rfl) fun _ _ _ _ h => h) (ha := (pa_cons (pv 5) (pa_cons (pe_ix ix_u (pv 4) (pe_un un_neg pe_int) (fun _ _ => rfl)) pa_nil)))) pa_nil))))) (pss_one (ps_ret (pe_mk (ok_Reckoning_init C) C.mk_Reckoning C.g_Reckoning (hr.mono (by decide)) (by rfl) (passes_call (takes_of rfl rfl rfl rfl) fun _ _ _ _ h => h) (ha := (pa_cons (pv 2) (pa_cons (pv 3) (pa_cons (pv 4) pa_nil))))))))))))), read_reckoning_of C.F C.kr h⟩), F.bindsN fun _ _ _ _ _ _ us hl => match us, hl with | [_], _ => rfl⟩, C.g_reckoning_of, F.kp⟩
theorem ok_Yard_reckoning (C : Ct K w mg) : GoodM P w K mg base 4 "Yard" "reckoning" ["self"] (sp_Yard_reckoning K) := by
  obtain ⟨fd, F⟩ := C.says.def_ 23 (d := d_Yard_reckoning) rfl
  exact ⟨⟨fd, F.ok (k := 3) sc_Yard_reckoning (fun vs H Q E h => sp1_len vs H Q E h) (fun cdv A outer s H vs Q E hr h => ⟨t_Yard_reckoning K E, (have hu := hr.units; (pss_cons (ps_if (pt_cmpR op_uIs (pe_fld (pv 0) rfl) pe_non (by rfl)) (pss_one (ps_fld (pv 0) (pe_fo (ok_reckoning_of C) (hr.mono (by decide)) (by rfl) (passes_call (takes_of rfl rfl rfl rfl) fun _ _ _ _ h => h) (ha := (pa_cons (pe_fld (pv 0) rfl) pa_nil))) rfl)) pss_nil) (pss_one (ps_ret (pe_fld (pv 0) rfl))))), read_Yard_reckoning C.F C.kr h⟩), F.bindsN fun _ _ _ _ _ _ us hl => match us, hl with | [_], _ => rfl⟩, C.m_Yard_reckoning, C.F.cl⟩
theorem ok_Yard_len (C : Ct K w mg) : GoodM P w K mg base 1 "Yard" "__len__" ["self"] (sp_Yard_len K) := by
  obtain ⟨fd, F⟩ := C.says.def_ 21 (d := d_Yard_len) rfl
  exact ⟨⟨fd, F.ok (k := 0) sc_Yard_len (fun vs H Q E h => sp1_len vs H Q E h) (fun cdv A outer s H vs Q E hr h => ⟨t_Yard_len K E, (have hu := hr.units; (pss_one (ps_ret (pe_callB call_uLen (by rfl) C.n_len boot_len (pa_cons (pe_fld (pv 0) rfl) pa_nil))))), read_Yard_len C.F h⟩), F.bindsN fun _ _ _ _ _ _ us hl => match us, hl with | [_], _ => rfl⟩, C.m_Yard_len, C.F.cl⟩
theorem ok_check_yard (C : Ct K w mg) : GoodO P w K mg base 3 "check_yard" ["yard"] (sp_check_yard K) := by
  obtain ⟨fd, F⟩ := C.says.def_ 19 (d := d_check_yard) rfl
  exact ⟨⟨fd, F.ok (k := 2) sc_check_yard (fun vs H Q E h => sp1_len vs H Q E h) (fun cdv A outer s H vs Q E hr h => ⟨t_check_yard K E, (have hu := hr.units; (pss_one (ps_if (pt_not (pt_val (pe_callB call_uIsi (by rfl) C.n_isinstance (by decide +kernel) (pa_cons (pv 0) (pa_cons (pe_glob (by rfl) C.g_Yard rfl) pa_nil))))) (pss_one (ps_rse (okx_InvalidYard C) (hr.mono (by decide)) rfl (takes_of rfl rfl rfl rfl) (by rfl) (pa_cons (pv 0) pa_nil))) pss_nil))), read_check_yard C.F h⟩), F.bindsN fun _ _ _ _ _ _ us hl => match us, hl with | [_], _ => rfl⟩, C.g_check_yard, F.kp⟩
theorem ok_is_arrangement (C : Ct K w mg) : GoodO P w K mg base 4 "is_arrangement" ["yard", "value"] (sp_is_arrangement K) := by
  obtain ⟨fd, F⟩ := C.says.def_ 26 (d := d_is_arrangement) rfl
  exact ⟨⟨fd, F.ok (k := 3) sc_is_arrangement (fun vs H Q E h => sp2_len vs H Q E h) (fun cdv A outer s H vs Q E hr h => ⟨t_is_arrangement K E, (have hu := hr.units; (pss_cons (ps_expr (pe_fo (ok_check_yard C) (hr.mono (by decide)) (by rfl) (passes_call (takes_of rfl rfl rfl rfl) fun _ _ _ _ h => h) (ha := (pa_cons (pv 0) pa_nil)))) (pss_one (ps_ret (pe_and (pe_callB call_uIsi (by rfl) C.n_isinstance (by decide +kernel) (pa_cons (pv 1) (pa_cons (pe_bltn (v := .ty "str") (by rfl) C.n_str (by decide +kernel) rfl) pa_nil))) (pe_and (pe_cmpR (op_uEq hu) (pe_callB call_uLen (by rfl) C.n_len boot_len (pa_cons (pv 1) pa_nil)) (pe_lenY (ok_Yard_len C) (hr.mono (by decide)) (by rfl) C.n_len (pa_cons (pv 0) pa_nil)) (by rfl)) (pe_one (pe_cmpR (op_uEq hu) (pe_bm PySem.F.plainAttrs_str PySem.F.slot_str_strip PySem.F.type_str_strip mt_stripU (pv 1) (pa_cons (pe_str_of (by rfl) (C.str__PLACE_SIGNS)) pa_nil)) pe_str (by rfl))))))))), read_is_arrangement C.F h⟩), F.bindsN fun _ _ _ _ _ _ us hl => match us, hl with | [_, _], _ => rfl⟩, C.g_is_arrangement, F.kp⟩
theorem ok_check_arrangement (C : Ct K w mg) : GoodO P w K mg base 5 "check_arrangement" ["yard", "arrangement"] (sp_check_arrangement K) := by
  obtain ⟨fd, F⟩ := C.says.def_ 27 (d := d_check_arrangement) rfl
  exact ⟨⟨fd, F.ok (k := 4) sc_check_arrangement (fun vs H Q E h => sp2_len vs H Q E h) (fun cdv A outer s H vs Q E hr h => ⟨t_check_arrangement K E, (have hu := hr.units; (pss_one (ps_if (pt_not (pt_val (pe_fo (ok_is_arrangement C) (hr.mono (by decide)) (by rfl) (passes_call (takes_of rfl rfl rfl rfl) fun _ _ _ _ h => h) (ha := (pa_cons (pv 0) (pa_cons (pv 1) pa_nil)))))) (pss_one (ps_rse (okx_InvalidArrangement C) (hr.mono (by decide)) rfl (takes_of rfl rfl rfl rfl) (by rfl) (pa_cons (pv 1) pa_nil))) pss_nil))), read_check_arrangement C.F h⟩), F.bindsN fun _ _ _ _ _ _ us hl => match us, hl with | [_, _], _ => rfl⟩, C.g_check_arrangement, F.kp⟩
theorem ok_from_towers (C : Ct K w mg) : GoodO P w K mg base 6 "from_towers" ["yard", "goal"] (sp_from_towers K) := by
  obtain ⟨fd, F⟩ := C.says.def_ 30 (d := d_from_towers) rfl
  exact ⟨⟨fd, F.ok (k := 5) sc_from_towers (fun vs H Q E h => sp2_len vs H Q E h) (fun cdv A outer s H vs Q E hr h => ⟨t_from_towers K E, (have hu := hr.units; (pss_cons (ps_expr (pe_fo (ok_check_arrangement C) (hr.mono (by decide)) (by rfl) (passes_call (takes_of rfl rfl rfl rfl) fun _ _ _ _ h => h) (ha := (pa_cons (pv 0) (pa_cons (pv 1) pa_nil))))) (pss_cons (ps_set (i := 2) sc_from_towers.nd rfl (Or.inl rfl) (Exists.elim (ok_Yard_reckoning C).fn fun _ z => pe_meth0 (pv 0) (ok_Yard_reckoning (P := P) (base := base) C).cl (ok_Yard_reckoning (P := P) (base := base) C).mt z.1 (hr.mono (by decide)) z.2 .nil (passes_call (takes_of rfl rfl rfl rfl) fun _ _ _ _ h => h))) (pss_one (ps_ret (Exists.elim (ok_Reckoning_named C).fn fun _ z => pe_meth (pv 2) (ok_Reckoning_named (P := P) (base := base) C).cl (ok_Reckoning_named (P := P) (base := base) C).mt z.1 (hr.mono (by decide)) z.2 .nil (passes_call (takes_of rfl rfl rfl rfl) fun _ _ _ _ h => h) (pa_cons (pe_glob (by rfl) C.g_PLACES rfl) (pa_cons (pe_ix ix_u (Exists.elim (ok_Reckoning_from_towers C).fn fun _ z => pe_meth (pv 2) (ok_Reckoning_from_towers (P := P) (base := base) C).cl (ok_Reckoning_from_towers (P := P) (base := base) C).mt z.1 (hr.mono (by decide)) z.2 .nil (passes_call (takes_of rfl rfl rfl rfl) fun _ _ _ _ h => h) (pa_cons (pv 1) pa_nil)) (pe_un un_neg pe_int) (fun _ _ => rfl)) pa_nil)))))))), read_from_towers C.F C.kr h⟩), F.bindsN fun _ _ _ _ _ _ us hl => match us, hl with | [_, _], _ => rfl⟩, C.g_from_towers, F.kp⟩
theorem okK_from_towers_1_0 (C : Ct K w mg) : ∃ fd, FnOk P w K mg base (L2.CX P w) 6 (He.ga K "from_towers") fd ["yard", "goal"] (sp_from_towers K) ∧ KBn K fd ["yard", "goal"] 0 ["goal", "yard"] (fun us ws => kwP [1, 0] us ws) (fun vs zs => kwP [1, 0] vs zs) := by
  obtain ⟨fd, F⟩ := C.says.def_ 30 (d := d_from_towers) rfl
  exact ⟨fd, F.ok (k := 5) sc_from_towers (fun vs H Q E h => sp2_len vs H Q E h) (fun cdv A outer s H vs Q E hr h => ⟨t_from_towers K E, (have hu := hr.units; (pss_cons (ps_expr (pe_fo (ok_check_arrangement C) (hr.mono (by decide)) (by rfl) (passes_call (takes_of rfl rfl rfl rfl) fun _ _ _ _ h => h) (ha := (pa_cons (pv 0) (pa_cons (pv 1) pa_nil))))) (pss_cons (ps_set (i := 2) sc_from_towers.nd rfl (Or.inl rfl) (Exists.elim (ok_Yard_reckoning C).fn fun _ z => pe_meth0 (pv 0) (ok_Yard_reckoning (P := P) (base := base) C).cl (ok_Yard_reckoning (P := P) (base := base) C).mt z.1 (hr.mono (by decide)) z.2 .nil (passes_call (takes_of rfl rfl rfl rfl) fun _ _ _ _ h => h))) (pss_one (ps_ret (Exists.elim (ok_Reckoning_named C).fn fun _ z => pe_meth (pv 2) (ok_Reckoning_named (P := P) (base := base) C).cl (ok_Reckoning_named (P := P) (base := base) C).mt z.1 (hr.mono (by decide)) z.2 .nil (passes_call (takes_of rfl rfl rfl rfl) fun _ _ _ _ h => h) (pa_cons (pe_glob (by rfl) C.g_PLACES rfl) (pa_cons (pe_ix ix_u (Exists.elim (ok_Reckoning_from_towers C).fn fun _ z => pe_meth (pv 2) (ok_Reckoning_from_towers (P := P) (base := base) C).cl (ok_Reckoning_from_towers (P := P) (base := base) C).mt z.1 (hr.mono (by decide)) z.2 .nil (passes_call (takes_of rfl rfl rfl rfl) fun _ _ _ _ h => h) (pa_cons (pv 1) pa_nil)) (pe_un un_neg pe_int) (fun _ _ => rfl)) pa_nil)))))))), read_from_towers C.F C.kr h⟩), kbN F 0 ["goal", "yard"] (fun vs zs => kwP [1, 0] vs zs) (fun h1 h2 => kwP_rel [1, 0] h1 h2) fun _ _ _ _ _ _ us ws h1 h2 => match us, ws, h1, h2 with | [], [_, _], _, _ => rfl⟩
theorem ok_check_both (C : Ct K w mg) : GoodO P w K mg base 6 "check_both" ["yard", "start", "goal"] (sp_check_both K) := by
  obtain ⟨fd, F⟩ := C.says.def_ 28 (d := d_check_both) rfl
  exact ⟨⟨fd, F.ok (k := 5) sc_check_both (fun vs H Q E h => sp3_len vs H Q E h) (fun cdv A outer s H vs Q E hr h => ⟨t_check_both K E, (have hu := hr.units; (pss_cons (ps_expr (pe_fo (ok_check_arrangement C) (hr.mono (by decide)) (by rfl) (passes_call (takes_of rfl rfl rfl rfl) fun _ _ _ _ h => h) (ha := (pa_cons (pv 0) (pa_cons (pv 1) pa_nil))))) (pss_one (ps_expr (pe_fo (ok_check_arrangement C) (hr.mono (by decide)) (by rfl) (passes_call (takes_of rfl rfl rfl rfl) fun _ _ _ _ h => h) (ha := (pa_cons (pv 0) (pa_cons (pv 2) pa_nil)))))))), read_check_both C.F h⟩), F.bindsN fun _ _ _ _ _ _ us hl => match us, hl with | [_, _, _], _ => rfl⟩, C.g_check_both, F.kp⟩
theorem ok_first_apart (C : Ct K w mg) : GoodO P w K mg base 1 "first_apart" ["starts", "goals"] (sp_first_apart K) := by
  obtain ⟨fd, F⟩ := C.says.def_ 16 (d := d_first_apart) rfl
  exact ⟨⟨fd, F.ok (k := 0) sc_first_apart (fun vs H Q E h => sp2_len vs H Q E h) (fun cdv A outer s H vs Q E hr h => ⟨t_first_apart K E, (have hu := hr.units; (pss_cons (ps_for (passes_of rfl) rfl (pi_enumU (by rfl) C.n_enumerate (pa_cons (pv 0) pa_nil)) (pg_tup (by rfl) (pgs_cons (pg_name (i := 2) sc_first_apart.nd rfl (Or.inr rfl)) (pgs_cons (pg_name (i := 3) sc_first_apart.nd rfl (Or.inl rfl)) pgs_nil))) (pss_one (ps_if (PW.pt (pw_and (pt_cmpR (op_uNe hu) (pv 3) (pe_ix ix_u (pv 1) (pv 2) (fun _ _ => rfl)) (by rfl)) (pw_and1 (pt_not (pt_val (pe_callB (cr_any rfl) (by rfl) C.n_any (by decide +kernel) (pa_cons (pe_lc (own := [("place", 4)]) (g := (gName 4)) (tt := tYes) rfl sc_first_apart.nd (pi_str (pv 3)) (blkOk_by (N := n_first_apart) (sc := defScope s_first_apart) (by decide +kernel)) (fun _ _ _ _ _ => (pg_name (i := 4) sc_first_apart.nd rfl (Or.inl rfl))) (fun _ _ _ _ _ => pts_nil) (fun _ _ _ _ _ => (pe_cmpR op_uIn (pv 4) (pe_ix ix_u (pv 1) (pv 2) (fun _ _ => rfl)) (by rfl)))) pa_nil))))))) (pss_one (ps_ret (pv 2))) pss_nil))) (pss_one (ps_ret pe_non)))), read_first_apart C.F h⟩), F.bindsN fun _ _ _ _ _ _ us hl => match us, hl with | [_, _], _ => rfl⟩, C.g_first_apart, F.kp⟩
theorem ok_largest_moving (C : Ct K w mg) : GoodO P w K mg base 7 "largest_moving" ["yard", "start", "goal"] (sp_largest_moving K) := by
  obtain ⟨fd, F⟩ := C.says.def_ 32 (d := d_largest_moving) rfl
  exact ⟨⟨fd, F.ok (k := 6) sc_largest_moving (fun vs H Q E h => sp3_len vs H Q E h) (fun cdv A outer s H vs Q E hr h => ⟨t_largest_moving K E, (have hu := hr.units; (pss_cons (ps_expr (pe_fo (ok_check_both C) (hr.mono (by decide)) (by rfl) (passes_call (takes_of rfl rfl rfl rfl) fun _ _ _ _ h => h) (ha := (pa_cons (pv 0) (pa_cons (pv 1) (pa_cons (pv 2) pa_nil)))))) (pss_one (ps_ret (pe_fo (ok_first_apart C) (hr.mono (by decide)) (by rfl) (passes_call (takes_of rfl rfl rfl rfl) fun _ _ _ _ h => h) (ha := (pa_cons (pv 1) (pa_cons (pv 2) pa_nil)))))))), read_largest_moving C.F h⟩), F.bindsN fun _ _ _ _ _ _ us hl => match us, hl with | [_, _, _], _ => rfl⟩, C.g_largest_moving, F.kp⟩
theorem ok_both_lines (C : Ct K w mg) : GoodO P w K mg base 1 "both_lines" ["way", "prices", "towers", "to_towers", "from_towers"] (sp_both_lines K) := by
  obtain ⟨fd, F⟩ := C.says.def_ 2 (d := d_both_lines) rfl
  exact ⟨⟨fd, F.ok (k := 0) sc_both_lines (fun vs H Q E h => sp5_len vs H Q E h) (fun cdv A outer s H vs Q E hr h => ⟨t_both_lines K E, (have hu := hr.units; (pss_cons (ps_asg (pe_ix (ix_turn C.t__TURNS) (pe_glob (by rfl) C.g__TURNS rfl) (pv 0) (fun _ _ => rfl)) (pg_tup (by rfl) (pgs_cons (pg_name (i := 5) sc_both_lines.nd rfl (Or.inl rfl)) (pgs_cons (pg_name (i := 6) sc_both_lines.nd rfl (Or.inl rfl)) (pgs_cons (pg_name (i := 7) sc_both_lines.nd rfl (Or.inl rfl)) (pgs_cons (pg_name (i := 8) sc_both_lines.nd rfl (Or.inl rfl)) (pgs_cons (pg_name (i := 9) sc_both_lines.nd rfl (Or.inl rfl)) (pgs_cons (pg_name (i := 10) sc_both_lines.nd rfl (Or.inl rfl)) (pgs_cons (pg_name (i := 11) sc_both_lines.nd rfl (Or.inl rfl)) pgs_nil))))))))) (pss_one (ps_ret (pe_tup (pa_cons (pe_op op_uAdd (pe_op op_uAdd (pe_ix ix_u (pv 3) (pv 11) (fun _ _ => rfl)) (pe_ix ix_u (pv 1) (pv 5) (fun _ _ => rfl))) (pe_ix ix_u (pv 4) (pv 11) (fun _ _ => rfl))) (pa_cons (pe_op op_uAdd (pe_op op_uAdd (pe_op op_uAdd (pe_op op_uAdd (pe_ix ix_u (pv 3) (pv 10) (fun _ _ => rfl)) (pe_ix ix_u (pv 1) (pv 6) (fun _ _ => rfl))) (pe_ix ix_u (pv 2) (pv 8) (fun _ _ => rfl))) (pe_ix ix_u (pv 1) (pv 7) (fun _ _ => rfl))) (pe_ix ix_u (pv 4) (pv 9) (fun _ _ => rfl))) pa_nil))))))), read_both_lines C.F h⟩), F.bindsN fun _ _ _ _ _ _ us hl => match us, hl with | [_, _, _, _, _], _ => rfl⟩, C.g_both_lines, F.kp⟩
theorem ok_Reckoning_cheapest (C : Ct K w mg) : GoodM P w K mg base 5 "Reckoning" "cheapest" ["self", "starts", "goals"] (sp_Reckoning_cheapest K) := by
  obtain ⟨fd, F⟩ := C.says.def_ 13 (d := d_Reckoning_cheapest) rfl
  exact ⟨⟨fd, F.ok (k := 4) sc_Reckoning_cheapest (fun vs H Q E h => sp3_len vs H Q E h) (fun cdv A outer s H vs Q E hr h => ⟨t_Reckoning_cheapest K E, (have hu := hr.units; (pss_cons (ps_set (i := 3) sc_Reckoning_cheapest.nd rfl (Or.inr rfl) (pe_fo (ok_first_apart C) (hr.mono (by decide)) (by rfl) (passes_call (takes_of rfl rfl rfl rfl) fun _ _ _ _ h => h) (ha := (pa_cons (pv 1) (pa_cons (pv 2) pa_nil))))) (pss_cons (ps_if (pt_cmpR op_uIs (pv 3) pe_non (by rfl)) (pss_one (ps_ret pe_int)) pss_nil) (pss_cons (ps_set (i := 4) sc_Reckoning_cheapest.nd rfl (Or.inl rfl) (pe_op op_uSub (pe_op op_uSub (pe_callB call_uLen (by rfl) C.n_len boot_len (pa_cons (pv 1) pa_nil)) pe_int) (pv 3))) (pss_cons (ps_asg (pe_tup (pa_cons (pe_ix ix_u (pe_fld (pv 0) rfl) (pv 4) (fun _ _ => rfl)) (pa_cons (pe_ix ix_u (pe_fld (pv 0) rfl) (pv 4) (fun _ _ => rfl)) pa_nil))) (pg_tup (by rfl) (pgs_cons (pg_name (i := 5) sc_Reckoning_cheapest.nd rfl (Or.inr rfl)) (pgs_cons (pg_name (i := 6) sc_Reckoning_cheapest.nd rfl (Or.inr rfl)) pgs_nil)))) (pss_cons (ps_set (i := 7) sc_Reckoning_cheapest.nd rfl (Or.inr rfl) (pe_ix ix_u (Exists.elim (ok_Reckoning_to_towers C).fn fun _ z => pe_meth (pv 0) (ok_Reckoning_to_towers (P := P) (base := base) C).cl (ok_Reckoning_to_towers (P := P) (base := base) C).mt z.1 (hr.mono (by decide)) z.2 .nil (passes_call (takes_of rfl rfl rfl rfl) fun _ _ _ _ h => h) (pa_cons (pe_slice sl_u (pv 1) (po_some (pe_op op_uAdd (pv 3) pe_int)) po_none) pa_nil)) (pe_un un_neg pe_int) (fun _ _ => rfl))) (pss_cons (ps_set (i := 8) sc_Reckoning_cheapest.nd rfl (Or.inr rfl) (pe_ix ix_u (Exists.elim (ok_Reckoning_from_towers C).fn fun _ z => pe_meth (pv 0) (ok_Reckoning_from_towers (P := P) (base := base) C).cl (ok_Reckoning_from_towers (P := P) (base := base) C).mt z.1 (hr.mono (by decide)) z.2 .nil (passes_call (takes_of rfl rfl rfl rfl) fun _ _ _ _ h => h) (pa_cons (pe_slice sl_u (pv 2) (po_some (pe_op op_uAdd (pv 3) pe_int)) po_none) pa_nil)) (pe_un un_neg pe_int) (fun _ _ => rfl))) (pss_one (ps_ret (pe_callB (cr_min rfl) (by rfl) C.n_min (by decide +kernel) (pa_cons (pe_lc2 (own := [("here", 9), ("there", 10)]) (vs1 := [10]) rfl sc_Reckoning_cheapest.nd (pi_str (pe_ix ix_u (pv 1) (pv 3) (fun _ _ => rfl))) (blkOk_by (N := n_Reckoning_cheapest) (sc := defScope s_Reckoning_cheapest) (by decide +kernel)) (by decide) (fun _ _ _ _ _ => (pg_name (i := 9) sc_Reckoning_cheapest.nd rfl (Or.inl rfl))) (fun _ _ _ _ _ => pts_nil) (fun _ _ _ _ _ => (pi_str (pe_ix ix_u (pv 2) (pv 3) (fun _ _ => rfl)))) (fun _ _ _ _ _ => (pg_name (i := 10) sc_Reckoning_cheapest.nd rfl (Or.inl rfl))) (fun _ _ _ _ _ => pts_nil) (fun _ _ _ _ _ => (pe_callB (call_minT rfl hu) (by rfl) C.n_min (by decide +kernel) (pa_cons (pe_fo (ok_both_lines C) (hr.mono (by decide)) (by rfl) passL (ha := (pa_cons (pe_op op_uAdd (pv 9) (pv 10)) (pa_cons (pv 5) (pa_cons (pv 6) (pa_cons (pv 7) (pa_cons (pv 8) pa_nil))))))) pa_nil)))) pa_nil))))))))))), read_Reckoning_cheapest C.F C.kr h⟩), F.bindsN fun _ _ _ _ _ _ us hl => match us, hl with | [_, _, _], _ => rfl⟩, C.m_Reckoning_cheapest, C.kr.cl⟩
theorem ok_Reckoning_told (C : Ct K w mg) : GoodM P w K mg base 1 "Reckoning" "told" ["self", "number"] (sp_Reckoning_told K) := by
  obtain ⟨fd, F⟩ := C.says.def_ 14 (d := d_Reckoning_told) rfl
  exact ⟨⟨fd, F.ok (k := 0) sc_Reckoning_told (fun vs H Q E h => sp2_len vs H Q E h) (fun cdv A outer s H vs Q E hr h => ⟨t_Reckoning_told K E, (have hu := hr.units; (pss_one (ps_ret (pe_ifExp (pt_cmpR op_uLt (pv 1) (pe_fld (pv 0) rfl) (by rfl)) (pv 1) pe_non)))), read_Reckoning_told C.F C.kr h⟩), F.bindsN fun _ _ _ _ _ _ us hl => match us, hl with | [_, _], _ => rfl⟩, C.m_Reckoning_told, C.kr.cl⟩
theorem ok_least (C : Ct K w mg) : GoodO P w K mg base 7 "least" ["yard", "start", "goal"] (sp_least K) := by
  obtain ⟨fd, F⟩ := C.says.def_ 31 (d := d_least) rfl
  exact ⟨⟨fd, F.ok (k := 6) sc_least (fun vs H Q E h => sp3_len vs H Q E h) (fun cdv A outer s H vs Q E hr h => ⟨t_least K E, (have hu := hr.units; (pss_cons (ps_expr (pe_fo (ok_check_both C) (hr.mono (by decide)) (by rfl) (passes_call (takes_of rfl rfl rfl rfl) fun _ _ _ _ h => h) (ha := (pa_cons (pv 0) (pa_cons (pv 1) (pa_cons (pv 2) pa_nil)))))) (pss_cons (ps_set (i := 3) sc_least.nd rfl (Or.inl rfl) (Exists.elim (ok_Yard_reckoning C).fn fun _ z => pe_meth0 (pv 0) (ok_Yard_reckoning (P := P) (base := base) C).cl (ok_Yard_reckoning (P := P) (base := base) C).mt z.1 (hr.mono (by decide)) z.2 .nil (passes_call (takes_of rfl rfl rfl rfl) fun _ _ _ _ h => h))) (pss_one (ps_ret (Exists.elim (ok_Reckoning_told C).fn fun _ z => pe_meth (pv 3) (ok_Reckoning_told (P := P) (base := base) C).cl (ok_Reckoning_told (P := P) (base := base) C).mt z.1 (hr.mono (by decide)) z.2 .nil (passes_call (takes_of rfl rfl rfl rfl) fun _ _ _ _ h => h) (pa_cons (Exists.elim (ok_Reckoning_cheapest C).fn fun _ z => pe_meth (pv 3) (ok_Reckoning_cheapest (P := P) (base := base) C).cl (ok_Reckoning_cheapest (P := P) (base := base) C).mt z.1 (hr.mono (by decide)) z.2 .nil (passes_call (takes_of rfl rfl rfl rfl) fun _ _ _ _ h => h) (pa_cons (pv 1) (pa_cons (pv 2) pa_nil))) pa_nil))))))), read_least C.F C.kr h⟩), F.bindsN fun _ _ _ _ _ _ us hl => match us, hl with | [_, _, _], _ => rfl⟩, C.g_least, F.kp⟩
theorem okK_least_2_0_1 (C : Ct K w mg) : ∃ fd, FnOk P w K mg base (L2.CX P w) 7 (He.ga K "least") fd ["yard", "start", "goal"] (sp_least K) ∧ KBn K fd ["yard", "start", "goal"] 0 ["start", "goal", "yard"] (fun us ws => kwP [2, 0, 1] us ws) (fun vs zs => kwP [2, 0, 1] vs zs) := by
  obtain ⟨fd, F⟩ := C.says.def_ 31 (d := d_least) rfl
  exact ⟨fd, F.ok (k := 6) sc_least (fun vs H Q E h => sp3_len vs H Q E h) (fun cdv A outer s H vs Q E hr h => ⟨t_least K E, (have hu := hr.units; (pss_cons (ps_expr (pe_fo (ok_check_both C) (hr.mono (by decide)) (by rfl) (passes_call (takes_of rfl rfl rfl rfl) fun _ _ _ _ h => h) (ha := (pa_cons (pv 0) (pa_cons (pv 1) (pa_cons (pv 2) pa_nil)))))) (pss_cons (ps_set (i := 3) sc_least.nd rfl (Or.inl rfl) (Exists.elim (ok_Yard_reckoning C).fn fun _ z => pe_meth0 (pv 0) (ok_Yard_reckoning (P := P) (base := base) C).cl (ok_Yard_reckoning (P := P) (base := base) C).mt z.1 (hr.mono (by decide)) z.2 .nil (passes_call (takes_of rfl rfl rfl rfl) fun _ _ _ _ h => h))) (pss_one (ps_ret (Exists.elim (ok_Reckoning_told C).fn fun _ z => pe_meth (pv 3) (ok_Reckoning_told (P := P) (base := base) C).cl (ok_Reckoning_told (P := P) (base := base) C).mt z.1 (hr.mono (by decide)) z.2 .nil (passes_call (takes_of rfl rfl rfl rfl) fun _ _ _ _ h => h) (pa_cons (Exists.elim (ok_Reckoning_cheapest C).fn fun _ z => pe_meth (pv 3) (ok_Reckoning_cheapest (P := P) (base := base) C).cl (ok_Reckoning_cheapest (P := P) (base := base) C).mt z.1 (hr.mono (by decide)) z.2 .nil (passes_call (takes_of rfl rfl rfl rfl) fun _ _ _ _ h => h) (pa_cons (pv 1) (pa_cons (pv 2) pa_nil))) pa_nil))))))), read_least C.F C.kr h⟩), kbN F 0 ["start", "goal", "yard"] (fun vs zs => kwP [2, 0, 1] vs zs) (fun h1 h2 => kwP_rel [2, 0, 1] h1 h2) fun _ _ _ _ _ _ us ws h1 h2 => match us, ws, h1, h2 with | [], [_, _, _], _, _ => rfl⟩
theorem ok_to_towers (C : Ct K w mg) : GoodO P w K mg base 6 "to_towers" ["yard", "start"] (sp_to_towers K) := by
  obtain ⟨fd, F⟩ := C.says.def_ 29 (d := d_to_towers) rfl
  exact ⟨⟨fd, F.ok (k := 5) sc_to_towers (fun vs H Q E h => sp2_len vs H Q E h) (fun cdv A outer s H vs Q E hr h => ⟨t_to_towers K E, (have hu := hr.units; (pss_cons (ps_expr (pe_fo (ok_check_arrangement C) (hr.mono (by decide)) (by rfl) (passes_call (takes_of rfl rfl rfl rfl) fun _ _ _ _ h => h) (ha := (pa_cons (pv 0) (pa_cons (pv 1) pa_nil))))) (pss_cons (ps_set (i := 2) sc_to_towers.nd rfl (Or.inl rfl) (Exists.elim (ok_Yard_reckoning C).fn fun _ z => pe_meth0 (pv 0) (ok_Yard_reckoning (P := P) (base := base) C).cl (ok_Yard_reckoning (P := P) (base := base) C).mt z.1 (hr.mono (by decide)) z.2 .nil (passes_call (takes_of rfl rfl rfl rfl) fun _ _ _ _ h => h))) (pss_one (ps_ret (Exists.elim (ok_Reckoning_named C).fn fun _ z => pe_meth (pv 2) (ok_Reckoning_named (P := P) (base := base) C).cl (ok_Reckoning_named (P := P) (base := base) C).mt z.1 (hr.mono (by decide)) z.2 .nil (passes_call (takes_of rfl rfl rfl rfl) fun _ _ _ _ h => h) (pa_cons (pe_glob (by rfl) C.g_PLACES rfl) (pa_cons (pe_ix ix_u (Exists.elim (ok_Reckoning_to_towers C).fn fun _ z => pe_meth (pv 2) (ok_Reckoning_to_towers (P := P) (base := base) C).cl (ok_Reckoning_to_towers (P := P) (base := base) C).mt z.1 (hr.mono (by decide)) z.2 .nil (passes_call (takes_of rfl rfl rfl rfl) fun _ _ _ _ h => h) (pa_cons (pv 1) pa_nil)) (pe_un un_neg pe_int) (fun _ _ => rfl)) pa_nil)))))))), read_to_towers C.F C.kr h⟩), F.bindsN fun _ _ _ _ _ _ us hl => match us, hl with | [_, _], _ => rfl⟩, C.g_to_towers, F.kp⟩
theorem ok_is_integer (C : Ct K w mg) : GoodO P w K mg base 1 "is_integer" ["value"] (sp_is_integer K) := by
  obtain ⟨fd, F⟩ := C.says.def_ 18 (d := d_is_integer) rfl
  exact ⟨⟨fd, F.ok (k := 0) sc_is_integer (fun vs H Q E h => sp1_len vs H Q E h) (fun cdv A outer s H vs Q E hr h => ⟨t_is_integer K E, (have hu := hr.units; (pss_one (ps_ret (pe_and (pe_callB call_uIsi (by rfl) C.n_isinstance (by decide +kernel) (pa_cons (pv 0) (pa_cons (pe_bltn (v := .ty "int") (by rfl) C.n_int (by decide +kernel) rfl) pa_nil))) (pe_one (pe_not (pe_callB call_uIsi (by rfl) C.n_isinstance (by decide +kernel) (pa_cons (pv 0) (pa_cons (pe_bltn (v := .ty "bool") (by rfl) C.n_bool (by decide +kernel) rfl) pa_nil))))))))), read_is_integer C.F h⟩), F.bindsN fun _ _ _ _ _ _ us hl => match us, hl with | [_], _ => rfl⟩, C.g_is_integer, F.kp⟩
theorem ok_is_price (C : Ct K w mg) : GoodO P w K mg base 2 "is_price" ["value"] (sp_is_price K) := by
  obtain ⟨fd, F⟩ := C.says.def_ 17 (d := d_is_price) rfl
  exact ⟨⟨fd, F.ok (k := 1) sc_is_price (fun vs H Q E h => sp1_len vs H Q E h) (fun cdv A outer s H vs Q E hr h => ⟨t_is_price K E, (have hu := hr.units; (pss_one (ps_ret (pe_and (pe_fo (ok_is_integer C) (hr.mono (by decide)) (by rfl) (passes_call (takes_of rfl rfl rfl rfl) fun _ _ _ _ h => h) (ha := (pa_cons (pv 0) pa_nil))) (pe_one (pe_cmpR op_uGt (pv 0) pe_int (by rfl))))))), read_is_price C.F h⟩), F.bindsN fun _ _ _ _ _ _ us hl => match us, hl with | [_], _ => rfl⟩, C.g_is_price, F.kp⟩
theorem ok__is_price_row (C : Ct K w mg) : GoodO P w K mg base 3 "_is_price_row" ["value"] (sp__is_price_row K) := by
  obtain ⟨fd, F⟩ := C.says.def_ 25 (d := d__is_price_row) rfl
  exact ⟨⟨fd, F.ok (k := 2) sc__is_price_row (fun vs H Q E h => sp1_len vs H Q E h) (fun cdv A outer s H vs Q E hr h => ⟨t__is_price_row K E, (have hu := hr.units; (pss_one (ps_ret (pe_and (pe_callB call_uIsi (by rfl) C.n_isinstance (by decide +kernel) (pa_cons (pv 0) (pa_cons (pe_tup (pa_cons (pe_bltn (v := .ty "list") (by rfl) C.n_list (by decide +kernel) rfl) (pa_cons (pe_bltn (v := .ty "tuple") (by rfl) C.n_tuple (by decide +kernel) rfl) pa_nil))) pa_nil))) (pe_and (pe_cmpR (op_uEq hu) (pe_callB call_uLen (by rfl) C.n_len boot_len (pa_cons (pv 0) pa_nil)) (pe_callB call_uLen (by rfl) C.n_len boot_len (pa_cons (pe_glob (by rfl) C.g_WAYS rfl) pa_nil)) (by rfl)) (pe_one (pe_callB (cr_all rfl) (by rfl) C.n_all (by decide +kernel) (pa_cons (pe_lc (own := [("price", 1)]) (g := (gName 1)) (tt := tYes) rfl sc__is_price_row.nd (pi_seq (pv 0)) (blkOk_by (N := n__is_price_row) (sc := defScope s__is_price_row) (by decide +kernel)) (fun _ _ _ _ _ => (pg_name (i := 1) sc__is_price_row.nd rfl (Or.inl rfl))) (fun _ _ _ _ _ => pts_nil) (fun _ _ _ _ _ => (pe_or (pe_cmpR op_uIs (pv 1) pe_non (by rfl)) (pe_one (pe_fo (ok_is_price C) (hr.mono (by decide)) (by rfl) passL (ha := (pa_cons (pv 1) pa_nil))))))) pa_nil)))))))), read__is_price_row C.F h⟩), F.bindsN fun _ _ _ _ _ _ us hl => match us, hl with | [_], _ => rfl⟩, C.g__is_price_row, F.kp⟩
theorem ok__are_rows (C : Ct K w mg) : GoodO P w K mg base 4 "_are_rows" ["value"] (sp__are_rows K) := by
  obtain ⟨fd, F⟩ := C.says.def_ 24 (d := d__are_rows) rfl
  exact ⟨⟨fd, F.ok (k := 3) sc__are_rows (fun vs H Q E h => sp1_len vs H Q E h) (fun cdv A outer s H vs Q E hr h => ⟨t__are_rows K E, (have hu := hr.units; (pss_one (ps_ret (pe_and (pe_callB call_uIsi (by rfl) C.n_isinstance (by decide +kernel) (pa_cons (pv 0) (pa_cons (pe_tup (pa_cons (pe_bltn (v := .ty "list") (by rfl) C.n_list (by decide +kernel) rfl) (pa_cons (pe_bltn (v := .ty "tuple") (by rfl) C.n_tuple (by decide +kernel) rfl) pa_nil))) pa_nil))) (pe_and (pe_chain op_uLe op_uLe pe_int (pe_callB call_uLen (by rfl) C.n_len boot_len (pa_cons (pv 0) pa_nil)) (pe_int_of (by rfl) (C.int_MOST_CRATES))) (pe_one (pe_callB (cr_all rfl) (by rfl) C.n_all (by decide +kernel) (pa_cons (pe_lc (own := [("row", 1)]) (g := (gName 1)) (tt := tYes) rfl sc__are_rows.nd (pi_seq (pv 0)) (blkOk_by (N := n__are_rows) (sc := defScope s__are_rows) (by decide +kernel)) (fun _ _ _ _ _ => (pg_name (i := 1) sc__are_rows.nd rfl (Or.inl rfl))) (fun _ _ _ _ _ => pts_nil) (fun _ _ _ _ _ => (pe_fo (ok__is_price_row C) (hr.mono (by decide)) (by rfl) passL (ha := (pa_cons (pv 1) pa_nil))))) pa_nil)))))))), read__are_rows C.F h⟩), F.bindsN fun _ _ _ _ _ _ us hl => match us, hl with | [_], _ => rfl⟩, C.g__are_rows, F.kp⟩
theorem ok_Yard_init (C : Ct K w mg) : GoodM P w K mg base 5 "Yard" "__init__" ["self", "rows"] (sp_Yard_init K) := by
  obtain ⟨fd, F⟩ := C.says.def_ 20 (d := d_Yard_init) rfl
  exact ⟨⟨fd, F.ok (k := 4) sc_Yard_init (fun vs H Q E h => sp2_len vs H Q E h) (fun cdv A outer s H vs Q E hr h => ⟨t_Yard_init K E, (have hu := hr.units; (pss_cons (ps_if (pt_not (pt_val (pe_fo (ok__are_rows C) (hr.mono (by decide)) (by rfl) (passes_call (takes_of rfl rfl rfl rfl) fun _ _ _ _ h => h) (ha := (pa_cons (pv 1) pa_nil))))) (pss_one (ps_rse (okx_InvalidYard C) (hr.mono (by decide)) rfl (takes_of rfl rfl rfl rfl) (by rfl) (pa_cons (pv 1) pa_nil))) pss_nil) (pss_cons (ps_fld (pv 0) (pe_callTy (call_uTup rfl) (by rfl) C.n_tuple (by decide +kernel) (pa_cons (pe_lc (own := [("row", 2)]) (g := (gName 2)) (tt := tYes) rfl sc_Yard_init.nd (pi_seq (pv 1)) (blkOk_by (N := n_Yard_init) (sc := defScope s_Yard_init) (by decide +kernel)) (fun _ _ _ _ _ => (pg_name (i := 2) sc_Yard_init.nd rfl (Or.inl rfl))) (fun _ _ _ _ _ => pts_nil) (fun _ _ _ _ _ => (pe_callTy (call_uTup rfl) (by rfl) C.n_tuple (by decide +kernel) (pa_cons (pv 2) pa_nil)))) pa_nil)) rfl) (pss_one (ps_fld (pv 0) pe_non rfl))))), read_Yard_init C.F h⟩), F.bindsN fun _ _ _ _ _ _ us hl => match us, hl with | [_, _], _ => rfl⟩, C.m_Yard_init, C.F.cl⟩
theorem ok__law_right (C : Ct K w mg) : Good P w K mg base 8 "_law_right" ["_law_bag_here"] (sp__law_right K) := by
  obtain ⟨fd, F⟩ := C.says.def_ 42 (d := d__law_right) rfl
  exact ⟨⟨fd, fnG_of (k := 7) F sc__law_right (fun vs H Q E h => sp1_len vs H Q E h) (fun cdv A outer s H vs Q E hA hr h => ⟨t__law_right K E, (have hu := hr.units; (pss_cons (ps_set (i := 1) sc__law_right.nd rfl (Or.inr rfl) (pe_fo (ok__law_rows C) (hr.mono (by decide)) (by rfl) (passes_call (takes_of rfl rfl rfl rfl) fun _ _ _ _ h => h) (ha := (pa_cons (pv 0) (pa_cons (pe_op op_uAdd pe_int (pe_callTy call_int1 (by rfl) C.n_int (by decide +kernel) (pa_cons (pe_cmpR (op_uEq hu) (pe_fo (ok__law_take C) (hr.mono (by decide)) (by rfl) (passes_call (takes_of rfl rfl rfl rfl) fun _ _ _ _ h => h) (ha := (pa_cons (pv 0) (pa_cons pe_int pa_nil)))) pe_int (by rfl)) pa_nil))) pa_nil))))) (pss_cons (ps_asg (pe_tup (pa_cons (pe_mk (ok_Yard_init C) C.mk_Yard C.g_Yard (hr.mono (by decide)) (by rfl) (passes_call (takes_of rfl rfl rfl rfl) fun _ _ _ _ h => h) (ha := (pa_cons (pv 1) pa_nil))) (pa_cons (pe_fo (ok__law_word C) (hr.mono (by decide)) (by rfl) (passes_call (takes_of rfl rfl rfl rfl) fun _ _ _ _ h => h) (ha := (pa_cons (pv 0) (pa_cons (pe_callB call_uLen (by rfl) C.n_len boot_len (pa_cons (pv 1) pa_nil)) pa_nil)))) pa_nil))) (pg_tup (by rfl) (pgs_cons (pg_name (i := 2) sc__law_right.nd rfl (Or.inl rfl)) (pgs_cons (pg_name (i := 3) sc__law_right.nd rfl (Or.inr rfl)) pgs_nil)))) (pss_cons (ps_set (i := 4) sc__law_right.nd rfl (Or.inr rfl) (pe_fo (ok__law_far C) (hr.mono (by decide)) (by rfl) (passes_call (takes_of rfl rfl rfl rfl) fun _ _ _ _ h => h) (ha := (pa_cons (pv 1) (pa_cons (pv 3) pa_nil))))) (pss_cons (ps_for (passes_of rfl) rfl (pi_seq (pe_fo (ok__law_all C) (hr.mono (by decide)) (by rfl) (passes_call (takes_of rfl rfl rfl rfl) fun _ _ _ _ h => h) (ha := (pa_cons (pe_callB call_uLen (by rfl) C.n_len boot_len (pa_cons (pv 1) pa_nil)) pa_nil)))) (pg_name (i := 5) sc__law_right.nd rfl (Or.inr rfl)) (pss_cons (ps_if (pt_cmpR (op_uNe hu) (pe_callB (call_uRepr hA hu) (by rfl) C.n_repr (by decide +kernel) (pa_cons (pe_fo (ok_least C) (hr.mono (by decide)) (by rfl) (passes_call (takes_of rfl rfl rfl rfl) fun _ _ _ _ h => h) (ha := (pa_cons (pv 2) (pa_cons (pv 3) (pa_cons (pv 5) pa_nil))))) pa_nil)) (pe_callB (call_uRepr hA hu) (by rfl) C.n_repr (by decide +kernel) (pa_cons (pe_dget1 (Nat.lt_of_le_of_lt (Nat.add_le_add_left (by decide) _) hu) (pv 4) (pv 5) ⟨rfl, rfl, rfl, rfl⟩) pa_nil)) (by rfl)) (pss_one (ps_ret pe_bl)) pss_nil) (pss_cons (ps_setLc (i := 6) (own := [("_law_crate", 11)]) (g := (gName 11)) (tt := (tTest (tOp (uNe K) (tOp (uIx K) (tVar 5) (tVar 11)) (tOp (uIx K) (tVar 3) (tVar 11))))) rfl sc__law_right.nd rfl rfl (by exact sw_true rfl rfl rfl (by decide +kernel)) (pi_range1 (by rfl) C.n_range (pa_cons (pe_callB call_uLen (by rfl) C.n_len boot_len (pa_cons (pv 1) pa_nil)) pa_nil)) (blkOk_by (N := n__law_right) (sc := defScope s__law_right) (by decide +kernel)) (fun _ _ _ _ _ => (pg_name (i := 11) sc__law_right.nd rfl (Or.inl rfl))) (fun _ _ _ _ _ => (pts_one (pt_cmpR (op_uNe hu) (pe_ix ix_u (pv 5) (pv 11) (fun _ _ => rfl)) (pe_ix ix_u (pv 3) (pv 11) (fun _ _ => rfl)) (by rfl)))) (fun _ _ _ _ _ => (pv 11))) (pss_one (ps_if (pt_cmpR (op_uNe hu) (pe_fo (ok_largest_moving C) (hr.mono (by decide)) (by rfl) (passes_call (takes_of rfl rfl rfl rfl) fun _ _ _ _ h => h) (ha := (pa_cons (pv 2) (pa_cons (pv 3) (pa_cons (pv 5) pa_nil))))) (pe_ifExp (pt_cmpR (op_uNe hu) (pv 6) (pe_lst pa_nil) (by rfl)) (pe_ix ix_u (pv 6) pe_int (fun _ _ => rfl)) pe_non) (by rfl)) (pss_one (ps_ret pe_bl)) pss_nil))))) (pss_cons (ps_set (i := 7) sc__law_right.nd rfl (Or.inl rfl) (pe_callTy (call_dictP' rfl) (by rfl) C.n_dict (by decide +kernel) (pa_cons (pe_lc (own := [("_law_place", 12)]) (g := (gName 12)) (tt := tYes) rfl sc__law_right.nd (pi_str pe_str) (blkOk_by (N := n__law_right) (sc := defScope s__law_right) (by decide +kernel)) (fun _ _ _ _ _ => (pg_name (i := 12) sc__law_right.nd rfl (Or.inl rfl))) (fun _ _ _ _ _ => pts_nil) (fun _ _ _ _ _ => (pe_tup (pa_cons (pv 12) (pa_cons (pe_dget1 (Nat.lt_of_le_of_lt (Nat.add_le_add_left (by decide) _) hu) (pv 4) (pe_op op_uMul (pv 12) (pe_callB call_uLen (by rfl) C.n_len boot_len (pa_cons (pv 1) pa_nil))) ⟨rfl, rfl, rfl, rfl⟩) pa_nil))))) pa_nil))) (pss_cons (ps_set (i := 8) sc__law_right.nd rfl (Or.inl rfl) (pe_fo (ok_to_towers C) (hr.mono (by decide)) (by rfl) (passes_call (takes_of rfl rfl rfl rfl) fun _ _ _ _ h => h) (ha := (pa_cons (pv 2) (pa_cons (pv 3) pa_nil))))) (pss_cons (ps_if (pt_cmpR (op_neDK hu) (pv 8) (pv 7) (by rfl)) (pss_one (ps_ret pe_bl)) pss_nil) (pss_cons (ps_expr (pe_dclear (pv 8))) (pss_cons (ps_set (i := 9) sc__law_right.nd rfl (Or.inl rfl) (pe_callTy (call_dictP' rfl) (by rfl) C.n_dict (by decide +kernel) (pa_cons (pe_lc (own := [("_law_place", 12)]) (g := (gName 12)) (tt := tYes) rfl sc__law_right.nd (pi_str pe_str) (blkOk_by (N := n__law_right) (sc := defScope s__law_right) (by decide +kernel)) (fun _ _ _ _ _ => (pg_name (i := 12) sc__law_right.nd rfl (Or.inl rfl))) (fun _ _ _ _ _ => pts_nil) (fun _ _ _ _ _ => (pe_tup (pa_cons (pv 12) (pa_cons (pe_dget1 (Nat.lt_of_le_of_lt (Nat.add_le_add_left (by decide) _) hu) (pe_fo (ok__law_far C) (hr.mono (by decide)) (by rfl) passL (ha := (pa_cons (pv 1) (pa_cons (pe_op op_uMul (pv 12) (pe_callB call_uLen (by rfl) C.n_len boot_len (pa_cons (pv 1) pa_nil))) pa_nil)))) (pv 3) ⟨rfl, rfl, rfl, rfl⟩) pa_nil))))) pa_nil))) (pss_cons (ps_if (PW.pt (pw_or (pt_cmpR (op_neDK hu) (pe_fo (ok_to_towers C) (hr.mono (by decide)) (by rfl) (passes_call (takes_of rfl rfl rfl rfl) fun _ _ _ _ h => h) (ha := (pa_cons (pv 2) (pa_cons (pv 3) pa_nil)))) (pv 7) (by rfl)) (pw_or1 (pt_cmpR (op_neDK hu) (pe_fo (ok_from_towers C) (hr.mono (by decide)) (by rfl) (passes_call (takes_of rfl rfl rfl rfl) fun _ _ _ _ h => h) (ha := (pa_cons (pv 2) (pa_cons (pv 3) pa_nil)))) (pv 9) (by rfl))))) (pss_one (ps_ret pe_bl)) pss_nil) (pss_cons (ps_set (i := 10) sc__law_right.nd rfl (Or.inl rfl) (pe_fo (ok_from_towers C) (hr.mono (by decide)) (by rfl) (passes_call (takes_of rfl rfl rfl rfl) fun _ _ _ _ h => h) (ha := (pa_cons (pv 2) (pa_cons (pv 3) pa_nil))))) (pss_cons (ps_asg pe_int (pg_sub (pv 10) pe_str (set_dict (Nat.lt_of_le_of_lt (Nat.add_le_add_left (by decide) _) hu)))) (pss_cons (ps_if (PW.pt (pw_or (pt_cmpR (op_neDK hu) (by exact Exists.elim (okK_from_towers_1_0 (P := P) (base := base) C) fun _ z => pe_fnK (ks := ["goal", "yard"]) z.1 (hr.mono (by decide)) (by rfl) (ok_from_towers (P := P) (base := base) C).mg (ok_from_towers (P := P) (base := base) C).kp z.2 (passes_call (takes_of rfl rfl rfl rfl) fun _ _ _ _ h => h) (pk_cons (pv 3) (pk_cons (pv 2) pk_nil))) (pv 9) (by rfl)) (pw_or1 (pt_cmpR (op_uNe hu) (by exact Exists.elim (okK_least_2_0_1 (P := P) (base := base) C) fun _ z => pe_fnK (ks := ["start", "goal", "yard"]) z.1 (hr.mono (by decide)) (by rfl) (ok_least (P := P) (base := base) C).mg (ok_least (P := P) (base := base) C).kp z.2 (passes_call (takes_of rfl rfl rfl rfl) fun _ _ _ _ h => h) (pk_cons (pv 3) (pk_cons (pv 3) (pk_cons (pv 2) pk_nil)))) pe_int (by rfl))))) (pss_one (ps_ret pe_bl)) pss_nil) (pss_one (ps_ret (pe_cmpR (op_uEq hu) (Exists.elim (ok_Yard_rows C).fn fun _ z => pe_meth0 (pv 2) (ok_Yard_rows (P := P) (base := base) C).cl (ok_Yard_rows (P := P) (base := base) C).mt z.1 (hr.mono (by decide)) z.2 .nil (passes_call (takes_of rfl rfl rfl rfl) fun _ _ _ _ h => h)) (pv 1) (by rfl)))))))))))))))))), read__law_right C.F h⟩), F.bindsN fun _ _ _ _ _ _ us hl => match us, hl with | [_], _ => rfl⟩, C.g__law_right, F.kp⟩
theorem okF_law (C : Ct K w mg) {fd : FuncData} (F : FunD K d_law.name d_law.qual d_law.params d_law.body d_law.scope (d_law.dvs K) (d_law.kws K) (d_law.at_ K) fd) : FnG P w K mg base 9 (He.ga K "law") fd ["_law_script"] (sp_law0 K) :=
  fnG_of (k := 8) F sc_law (fun vs H Q E h => sp1_len vs H Q E h) (fun cdv A outer s H vs Q E hA hr h => ⟨t_law K E, (have hu := hr.units; (pss_cons (ps_for (passes_of rfl) rfl (pi_range1 (by rfl) C.n_range (pa_cons (pe_callB (call_max2 rfl) (by rfl) C.n_max (by decide +kernel) (pa_cons pe_int (pa_cons (pe_callB (call_min2 rfl) (by rfl) C.n_min (by decide +kernel) (pa_cons pe_int (pa_cons (pe_callB call_uLen (by rfl) C.n_len boot_len (pa_cons (pv 0) pa_nil)) pa_nil))) pa_nil))) pa_nil)) (pg_name (i := 1) sc_law.nd rfl (Or.inl rfl)) (pss_one (ps_if (pt_not (pt_val (pe_fn (ok__law_right C) hA (hr.mono (by decide)) (by rfl) (passes_call (takes_of rfl rfl rfl rfl) fun _ _ _ _ h => h) (ha := (pa_cons (pe_fo (ok__law_bag C) (hr.mono (by decide)) (by rfl) (passes_call (takes_of rfl rfl rfl rfl) fun _ _ _ _ h => h) (ha := (pa_cons (pe_fo (ok__law_cell C) (hr.mono (by decide)) (by rfl) (passes_call (takes_of rfl rfl rfl rfl) fun _ _ _ _ h => h) (ha := (pa_cons (pv 0) (pa_cons (pv 1) pa_nil)))) pa_nil))) pa_nil))))) (pss_one (ps_ret pe_bl)) pss_nil))) (pss_one (ps_ret pe_bl)))), read_law C.F h⟩)
end
end U
open PySem PySem.W PySem.Calls PyProof.Rows
theorem PySem.Challenge.cw_cratetowers_k24_any_two_arrangements_holds : PySem.Challenge.rw_cratetowers_k24_any_two_arrangements.Holds := by
  w_on; o_law
  refine HandSHeadRun.head_any (r := OpenLaw.row PySem.Challenge.rw_cratetowers_k24_any_two_arrangements) (q := view (OpenLaw.row PySem.Challenge.rw_cratetowers_k24_any_two_arrangements).prog [64]) (H := U.hk) (ob := U.ob) (M := 20000) (loose := U.loose) (d := HandSHeadRun.topDef (OpenLaw.row PySem.Challenge.rw_cratetowers_k24_any_two_arrangements).prog 64) (kwd := []) U.ob_eq
    (by kernel_rfl) (fun s => by kernel_rfl) U.run (by kernel_rfl) (by kernel_rfl) (by kernel_rfl) (by rfl) (by first | assumption | decide +kernel) (by decide +kernel) ⟨rfl, rfl, rfl, rfl, rfl, by decide +kernel⟩ ?hw ?hc
  case hw => w_witness2
  case hc =>
    refine U.walk_G (l := PySem.Challenge.rw_cratetowers_k24_any_two_arrangements) (n := 63) (k := 9) (x := "_law_script") ⟨rfl, by decide, by decide⟩ rfl (by decide) (by kernel_rfl) ?F
    intro w mg fa h hmg0 Y G
    obtain ⟨K, KX, c, e⟩ := Y
    have hmg : mg ("law" : PySem.Str) = some (.ref fa) := by
      have e : (HandSHeadRun.topDef (OpenLaw.row PySem.Challenge.rw_cratetowers_k24_any_two_arrangements).prog 64).name = ("law" : PySem.Str) := by kernel_rfl
      rw [← e]
      exact hmg0
    have C := U.ct_of KX G c e
    have e2 := hmg.symm.trans C.g_law
    cases e2
    obtain ⟨fd, F⟩ := c.1.def_ 43 (d := U.d_law) rfl
    have b := L2.FunD.bindsA (ps := ["_law_script"]) F fun _ _ _ _ _ _ us hl => match us, hl with | [_], _ => rfl
    exact ⟨K, U.sp_law0 K, fd, fun s v => b s [v] rfl, KX, fun base _ _ => U.okF_law C F, fun H a ns hl _ hS => ⟨a, ns, rfl, hS, fun _ => rfl⟩⟩

