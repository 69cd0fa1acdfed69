import PyProof.Rows.All
import Wide.All
import OpenK.AllK
import Wide.FinOn
import HandS.Dict
import HandS.Comp
import HandS.Iter
import KE.GoesEnumKw
import HandS.DictComp
import HandS.IsInst
import HandS.Wide
import HandS.Words
import HandS.ForMost
import HandS.StrMore
import HandS.TupLen
import HandS.Flow
import PySem.Challenge.RW_waitlists_k06_whole_large_runs
set_option Elab.async false
set_option linter.all false
set_option maxRecDepth 100000
set_option maxHeartbeats 4000000
namespace L2.Dx
open PySem PySem.Spec PyProof.Rows L2
section
variable {X : Cx} {pins : List (Addr × Obj)} {σ : St} {H H' : Hp} {s : Shared} {a : Addr} {y v : V} {u r : Value} {E : Value → Shared → Prop} {Q : Unit → Shared → Prop}
/-- a dict's item is stored, by a comprehension: keys of either kind -/
theorem put_ok (hu : X.A.units + 1 < cLine) (I : Inv X pins σ H s) (g : DPut H a y v H') (ry : RelV y u) (rv : RelV v r) (h : ∀ s', Inv X pins σ H' s' → Q () s') : wpAny (model X.prog X.w) X.A (dictSet a u r) Q E s := by
  rcases g with ⟨kvs, k, ea, rfl, hl0, rfl⟩ | ⟨kvs, k, b, ea, rfl, eb, hl0, rfl⟩
  · have hl1 := length_putK kvs k v
    obtain ⟨hz, hsys, cs, rel, dct⟩ := dk_of I.hok ea
    have hz' : cs.length ≤ sizeLine := rel.length ▸ hz
    refine wpAny_dictSet_pairs (hsz := hz') (kV_is ry) dct fun hp' dct' same => h _ (d_write I (by rw [ea]; exact True.intro) same ?_ (dk_new (by omega) hsys (rel.put k rv) dct'))
    obtain ⟨q, _, _, hq, _⟩ := dct'
    exact ⟨q, hq⟩
  · have hl1 := length_putK kvs k v
    cases (show u = Value.ref b from ry)
    obtain ⟨hz, hsys, cs, rel, dct⟩ := dt_of I.hok ea
    have hz' : cs.length ≤ sizeLine := Paired.length rel ▸ hz
    refine wpAny_dictSet_heap (hsz := hz') (show X.A.units < cLine by omega) (key_of I.hok eb) dct fun hp' dct' same => h _ ?_
    obtain ⟨q, es, ep, hq, q2, q3, q4, _, q5⟩ := dct'
    refine d_write I (by rw [ea]; exact True.intro) same ⟨q, hq⟩ ⟨by omega, hsys, _, KT.keeps (rel.put k eb rv) (fun c ys ec => ?_), q, es, ep, hq, q2, q3, q4, q5⟩
    exact (upd_ne (ne_of ec ea (by intro z; cases z))).trans ec
end

/-! enumerate(l, start=k) -/
/-- the list at a from its first item, each item in a new pair with the count k, k + 1, .. -/
def IteS (K : PySem.W.Frag) (a : Addr) (k : Int) : It where
  go := fun i H => ∃ (xs : List V) (x : V), SqL K H a xs ∧ xs[i]? = some x
  yld := fun i H v H' => ∃ T x, v = .ref T ∧ H T = none ∧ H' = upd H T (.tup [.int (k + (i : Nat)), x]) ∧ ∀ xs, SqL K H a xs → xs[i]? = some x
  stop := fun i H => ∃ xs : List V, SqL K H a xs ∧ xs.length = i
theorem turn_enumS {P : Program} {w : World} {K : PySem.W.Frag} {elts : List Expr} {kk : Nat} {tpos : Pos} (a e it : Addr) (k : Int) :
    Turn P w K (.Tuple elts kk tpos) (IteS K a k) [e, it] e (fun i h => (∃ old, IsEnum h e it (k + (i : Nat)) old) ∧ h.IsListIter it a i ∧ e ≠ it ∧ a ≠ it ∧ a ≠ e) where
  mem := List.mem_cons_self
  obj := by
    rintro i h ⟨⟨old, he⟩, ⟨o, ho, _, hd⟩, _⟩ b hb
    rcases List.mem_cons.mp hb with rfl | hb
    · exact ⟨_, he, fun _ q => nomatch q⟩
    · cases List.mem_singleton.mp hb
      exact ⟨o, ho, fun _ q => nomatch hd.symm.trans q⟩
  keep := by
    rintro i h h' ⟨⟨old, he⟩, hi, hne⟩ kp
    exact ⟨⟨old, kp e (by simp) _ he⟩, hi.at fun o q => kp it (by simp) o q, hne⟩
  item := by
    intro X hP hw hK hc i pins s σ H E I hf st hg
    subst hP hw hK
    obtain ⟨⟨old, he⟩, hit, hne, hai, hae⟩ := st
    obtain ⟨xs, x, hq, hx⟩ := hg
    obtain ⟨its, rv, p, hz⟩ := I.list hq
    obtain ⟨u, hu, ru⟩ := rv.get hx
    have le : e < s.heap.objs.size := Heap.lt_size he
    have li : it < s.heap.objs.size := hit.elim fun _ q => Heap.lt_size q.1
    have hn : i < its.toArray.size := by
      have := (List.getElem?_eq_some_iff.mp hu).1
      simpa using this
    have hE : e ∉ [it, a] := by simp [hne, Ne.symm hae]
    refine wpAny_pyNext_enum_itemC (Draws.list (A := X.A.in1) (I.ok.hd hc) it a hai its.toArray) he ⟨hit, p.isList⟩ hn hne hE fun u' h' tk hu' ho st' hT hsz hk => ?_
    have eu : u' = u := Option.some.inj (hu'.symm.trans (by simpa using hu))
    subst eu
    refine ⟨_, rfl, wpAny_letOwnedTupleGo_enum (s := { s with heap := h', toks := tk + 1 }) ho fun h2 he2 sb => ?_⟩
    have nw : h2.get? s.heap.objs.size = some { cls := .type "tuple", data := .seq #[.int (k + (i : Nat)) tk, u'] } := (sb.2 _ (Nat.ne_of_gt le)).trans hT
    have keepAll : ∀ b ob, b ∉ [e, it] → s.heap.get? b = some ob → h2.get? b = some ob := fun b ob hb q =>
      (sb.2 b (fun z => hb (by rw [z]; simp))).trans (hk b ob (fun z => hb (by rw [z]; simp)) (fun z => hb (by rw [z]; simp)) q)
    have I1 : Inv X pins σ (upd H s.heap.objs.size (.tup [.int (k + (i : Nat)), x])) { s with heap := h2, toks := tk + 1 } :=
      I.turnedNew (ch := [e, it]) keepAll hf (Nat.le_refl _) ⟨(by decide : 2 ≤ sizeLine), [.int (k + (i : Nat)) tk, u'], .cons ⟨_, rfl⟩ (.cons ru .nil), ⟨_, nw, rfl, _, rfl⟩⟩
    have hnone : H s.heap.objs.size = none := I.hok.fresh (Nat.le_refl _)
    refine ⟨.ref s.heap.objs.size, _, I1, rfl, ⟨_, x, rfl, hnone, rfl, fun ys hy => (I.list_inj hy hq) ▸ hx⟩, ⟨⟨u', ?_⟩, st'.1.at fun o q => (sb.2 it (Ne.symm hne)).trans q, hne, hai, hae⟩, fun b hb => ?_⟩
    · rw [show (k + ((i + 1 : Nat) : Int)) = k + (i : Nat) + 1 by omega]
      exact he2
    · have lb : b < s.heap.objs.size := by
        rcases List.mem_cons.mp hb with rfl | hb
        · exact le
        · cases List.mem_singleton.mp hb
          exact li
      exact (upd_ne (Nat.ne_of_lt lb)).trans (hf b hb).1
  done := by
    intro X hP hw hK hc i pins s σ H E I hf st hg
    subst hP hw hK
    obtain ⟨⟨old, he⟩, hit, hne, hai, hae⟩ := st
    obtain ⟨xs, hq, hx⟩ := hg
    obtain ⟨its, rv, p, hz⟩ := I.list hq
    obtain ⟨f0, f1, f2, f3, f4, f5⟩ := hf it (by simp)
    have hl := rv.length
    have en : i = its.toArray.size := by simp; omega
    rw [en] at hit
    exact wpAny_pyNext_enum_endD (Draws.list (A := X.A.in1) (I.ok.hd hc) it a hai its.toArray) he ⟨hit, p.isList⟩ fun h' eb => ⟨rfl, I.turned (t' := s.toks) (fun b o hb q => eb b o hb q) f0 f1 f3 f4 f5⟩
  self := fun A i s Q E st h => st.1.elim fun _ he => wpAny_pyIter_enum he h
end L2.Dx

set_option Elab.async false
set_option linter.all false
set_option maxRecDepth 100000
set_option maxHeartbeats 4000000
namespace L2.Dx
open PySem PySem.Spec PyProof.Rows L2
theorem callTyKw {M : Model} {A : Around} {E : Value → Shared → Prop} {s : Shared} {pos : Pos} {T : String} {first : List Value} {args : List (Bool × Sem Value)} {kws : List (Option Str × Sem Value)} {Q : Value → Shared → Prop}
    (hp : args.any (·.1) = false) (hk : kws.any (·.1.isNone) = false) (h : wpAny M A (evalArgs (.type T) true args kws) (fun a s₁ => wpAny M A (call (.type T) (first ++ a.pos) a.kw) Q E s₁) E s) : wpAny M A (callWith pos (.type T) first args kws) Q E s := by
  unfold callWith
  refine wpAny_bind (wpAny_holding (wpAny_mono h (fun a s₁ h₁ => wpAny_bind (wpAny_standAt ?_)) fun _ _ z => z))
  simp only [hp, hk, Bool.or_false]
  exact wpAny_bind (wpAny_pure (wpAny_bind (wpAny_mono h₁ (fun _ _ hr => wpAny_bind (wpAny_holding (wpAny_point (wpAny_pure hr)))) fun _ _ z => z)))
def iEnumS (K : PySem.W.Frag) (k : Int) (ta : TA) : TI := fun σ H R => ta σ H fun vs H1 => ∃ a xs, vs = [.ref a] ∧ SqL K H1 a xs ∧ R (IteS K a k) H1
theorem pi_enumS {X : Cx} {e : Expr} {ta : TA} {p pos tpos p2 kp : Pos} {elts : List Expr} {kk : Nat} {k : Int} {j : Nat} (k0 : -(2 ^ 63) ≤ k) (k1 : k < 2 ^ 63) (hg : Gl X "enumerate") (hm : X.mg "enumerate" = none) (ha : PA X [e] ta)
    (hs : starEach [e] X.env = [(false, eval e X.env)] := by rfl) :
    PI X (.Tuple elts kk tpos) (.Call (.Name "enumerate" p) [e] [⟨some (Str.ofString "start"), .Constant (.int k) j p2, kp⟩] pos) (iEnumS X.K k ta) := by
  refine ⟨fun pins s σ H R I h => ?_⟩
  have hb : backTo pos (starEach [e] X.env) = (false, eval e X.env) :: [] := by rw [hs]; rfl
  refine wpAny_Call_Name_kw (ld_blt I hg hm boot_enumerate (callTyKw (by rw [hs]; rfl) rfl ?_))
  have step := thn (ha.run pos pins s σ H _ I h) (Q' := fun us s1 => wpAny (model X.prog X.w) X.A (evalAll ((backToKw pos (keywordEach [⟨some (Str.ofString "start"), .Constant (.int k) j p2, kp⟩] X.env)).map (·.2)))
      (fun kvs s₂ => wpAny (model X.prog X.w) X.A (call (.type "enumerate") us ([Str.ofString "start"].zip kvs)) (fun v s3 => wpAny (model X.prog X.w) X.A (pyIter v) (PIE X pins σ (.Tuple elts kk tpos) R) X.xe s3) X.xe s₂) X.xe s1)
    fun us s1 ⟨vs, H1, I1, r1, a, xs, ev, hq, q⟩ => ?_
  · rw [hb] at step ⊢
    exact evalArgs_kwB rfl step
  · subst ev
    refine thn ((pk_cons pe_int pk_nil).run pos pins s1 σ H1 (fun zs H2 => zs = [.int k] ∧ H2 = H1) I1 ⟨rfl, rfl⟩) fun ws s2 ⟨zs, H2, I2, r2, ez, eH⟩ => ?_
    subst ez eH
    obtain ⟨u1, rfl, ru1⟩ := vals1 r1
    obtain ⟨u2, rfl, ru2⟩ := vals1 r2
    obtain rfl : u1 = Value.ref a := ru1
    obtain ⟨t, rfl⟩ : ∃ t, u2 = Value.int k t := ru2
    obtain ⟨its, rv, p', hz⟩ := I2.list hq
    refine enum_begins_start (begins_list a its.toArray) p'.isList k0 k1 fun h' he ho hsz hk => wpAny_pyIter_enum he ?_
    have I3 : Inv X pins σ H2 { s2 with heap := h' } := I2.kept (t' := s2.toks) hk
    have ha' : a < s2.heap.objs.size := by obtain ⟨_, z, _⟩ := p'.isList; exact Heap.lt_size z
    refine ⟨s2.heap.objs.size + 1, [s2.heap.objs.size + 1, s2.heap.objs.size], _, _, H2, rfl, I3, turn_enumS a (s2.heap.objs.size + 1) s2.heap.objs.size k, ⟨⟨.none, ?_⟩, ⟨_, ho, rfl, rfl⟩, Nat.succ_ne_self _, Nat.ne_of_lt ha', Nat.ne_of_lt (Nat.lt_succ_of_lt ha')⟩, fun b hb => ?_, q⟩
    · rw [show k + ((0 : Nat) : Int) = k by omega]
      exact he
    · have hle : s2.heap.objs.size ≤ b := by
        rcases List.mem_cons.mp hb with z | hb
        · rw [z]; exact Nat.le_add_right _ _
        · rw [List.mem_singleton.mp hb]; exact Nat.le_refl _
      exact I2.fpOk hle (I2.hok.fresh hle)

/-! {kx: vx for t0 in i0 if .. for t1 in i1 if ..} -/
theorem dTurn0 (kx vx t0 i0 t1 i1 : Expr) (ifs0 ifs1 : List Expr) (scope : Scope) (pos : Pos) (it : Value) (D : Addr) (env : Env) :
    compTurn (.DictComp kx vx [⟨t0, i0, ifs0, 0⟩, ⟨t1, i1, ifs1, 0⟩] scope pos) 0 it (.ref D) env = (do
      standAt i0.pos
      match ← pyNext it with
      | none => pure (.done .next)
      | some v =>
        letOwnedTupleGo t0 it v
        assign t0 env v
        let mut ok := true
        for c in ifs0 do
          if ok then ok ← isTrue c env (eval c env)
        if ok then
          let x ← eval i1 env
          standAt i1.pos
          let x ← foldedSetIterable i1 env x
          let _ ← runOwn (.compStart (.DictComp kx vx [⟨t0, i0, ifs0, 0⟩, ⟨t1, i1, ifs1, 0⟩] scope pos) 1 (← holding [x] (pyIter x)) (.ref D) env) env
        again (.compLoop (.DictComp kx vx [⟨t0, i0, ifs0, 0⟩, ⟨t1, i1, ifs1, 0⟩] scope pos) 0 it (.ref D) env)) := by rfl
theorem dTurn1 (kx vx t0 i0 t1 i1 : Expr) (ifs0 ifs1 : List Expr) (scope : Scope) (pos : Pos) (it : Value) (D : Addr) (env : Env) :
    compTurn (.DictComp kx vx [⟨t0, i0, ifs0, 0⟩, ⟨t1, i1, ifs1, 0⟩] scope pos) 1 it (.ref D) env = (do
      standAt i1.pos
      match ← pyNext it with
      | none => pure (.done .next)
      | some v =>
        letOwnedTupleGo t1 it v
        assign t1 env v
        let mut ok := true
        for c in ifs1 do
          if ok then ok ← isTrue c env (eval c env)
        if ok then
          (do
            let kv ← eval kx env
            let vv ← holding [kv] (eval vx env)
            standAt { kx.pos with endLine := vx.pos.endLine, endCol := vx.pos.endCol }
            holding [kv, vv] (dictSet D kv vv))
        again (.compLoop (.DictComp kx vx [⟨t0, i0, ifs0, 0⟩, ⟨t1, i1, ifs1, 0⟩] scope pos) 1 it (.ref D) env)) := by rfl
section
variable {prog : Program} {w : World} {A : Around} {R : Result → Shared → Prop} {s : Shared} {kx vx t0 i0 t1 i1 : Expr} {ifs0 ifs1 : List Expr} {scope : Scope} {pos : Pos} {it : Value} {D : Addr} {env : Env}
abbrev err (prog : Program) (w : World) (A : Around) (env : Env) (R : Result → Shared → Prop) : Value → Shared → Prop := notedBy (model prog w) A env fun e s' => R (.error e) s'
abbrev tests (ifs : List Expr) (env : Env) : Sem Bool := forIn ifs true fun c r => if r = true then do let ok ← isTrue c env (eval c env); pure (ForInStep.yield ok) else pure (ForInStep.yield r)
theorem dLoop0 (hs : ∀ x, foldedSetIterable i1 env x = pure x) (I : Nat → Shared → Prop)
    (turn : ∀ n s, I n s → wpAny (model prog w) A (pyNext it) (fun r s₁ => match r with
      | none => R (.ok .next) s₁
      | some v => wpAny (model prog w) A (letOwnedTupleGo t0 it v) (fun _ s₁' => wpAny (model prog w) A (assign t0 env v) (fun _ s₂ => wpAny (model prog w) A (tests ifs0 env) (fun ok s₃ =>
            if ok = true then wpAny (model prog w) A (eval i1 env) (fun x s₄ => wpAny (model prog w) A (pyIter x) (fun it1 s₅ =>
              codeAny (model prog w) A (.compStart (.DictComp kx vx [⟨t0, i0, ifs0, 0⟩, ⟨t1, i1, ifs1, 0⟩] scope pos) 1 it1 (.ref D) env) (fun r s' => match r with
                | .ok _ => ∃ m, m < n ∧ I m s'
                | .error _ => False) s₅) (err prog w A env R) s₄) (err prog w A env R) s₃
            else ∃ m, m < n ∧ I m s₃) (err prog w A env R) s₂) (err prog w A env R) s₁') (err prog w A env R) s₁) (err prog w A env R) s)
    (n : Nat) (h : I n s) : codeAny (model prog w) A (.compLoop (.DictComp kx vx [⟨t0, i0, ifs0, 0⟩, ⟨t1, i1, ifs1, 0⟩] scope pos) 0 it (.ref D) env) R s := by
  refine codeAny_loop rfl I (fun n s hI => ?_) n h
  show wpAny _ A ((compTurn (.DictComp kx vx [⟨t0, i0, ifs0, 0⟩, ⟨t1, i1, ifs1, 0⟩] scope pos) 0 it (.ref D) env).onRaise (fun x => do noteFrame x env; theTreesLotGoes x)) _ _ s
  refine wpAny_noted ?_
  rw [dTurn0]
  refine wpAny_bind (wpAny_standAt (wpAny_bind (wpAny_mono (turn n s hI) (fun r s₁ h₁ => ?_) fun _ _ z => z)))
  rcases r with _ | v
  · exact wpAny_pure h₁
  refine wpAny_bind (wpAny_mono h₁ (fun _ s₁' h₁' => wpAny_bind (wpAny_mono h₁' (fun _ s₂ h₂ => wpAny_bind (wpAny_mono h₂ (fun ok s₃ h₃ => ?_) fun _ _ z => z)) fun _ _ z => z)) fun _ _ z => z)
  rcases ok with _ | _
  · exact wpAny_pure ⟨rfl, h₃⟩
  refine wpAny_bind (wpAny_mono h₃ (fun x s₄ h₄ => wpAny_bind (wpAny_standAt (wpAny_bind (wpAny_of_eq (hs x) (wpAny_bind (wpAny_holding (wpAny_mono h₄ (fun it1 s₅ h₅ => wpAny_bind (wpAny_runOwn ?_)) fun _ _ z => z))))))) fun _ _ z => z)
  rw [Around.mark_none]
  refine codeAny_mono h₅ fun r s' hr => ?_
  rcases r with e | f
  · exact hr.elim
  · first
      | exact wpAny_pure ⟨rfl, hr⟩
      | exact wpAny_bind (wpAny_pure (wpAny_pure ⟨rfl, hr⟩))
theorem dLoop1 (I : Nat → Shared → Prop)
    (turn : ∀ n s, I n s → wpAny (model prog w) A (pyNext it) (fun r s₁ => match r with
      | none => R (.ok .next) s₁
      | some v => wpAny (model prog w) A (letOwnedTupleGo t1 it v) (fun _ s₁' => wpAny (model prog w) A (assign t1 env v) (fun _ s₂ => wpAny (model prog w) A (tests ifs1 env) (fun ok s₃ =>
            if ok = true then wpAny (model prog w) A (eval kx env) (fun kv s₄ => wpAny (model prog w) A (eval vx env) (fun vv s₅ =>
              wpAny (model prog w) A (dictSet D kv vv) (fun _ s₆ => ∃ m, m < n ∧ I m s₆) (err prog w A env R) s₅) (err prog w A env R) s₄) (err prog w A env R) s₃
            else ∃ m, m < n ∧ I m s₃) (err prog w A env R) s₂) (err prog w A env R) s₁') (err prog w A env R) s₁) (err prog w A env R) s)
    (n : Nat) (h : I n s) : codeAny (model prog w) A (.compLoop (.DictComp kx vx [⟨t0, i0, ifs0, 0⟩, ⟨t1, i1, ifs1, 0⟩] scope pos) 1 it (.ref D) env) R s := by
  refine codeAny_loop rfl I (fun n s hI => ?_) n h
  show wpAny _ A ((compTurn (.DictComp kx vx [⟨t0, i0, ifs0, 0⟩, ⟨t1, i1, ifs1, 0⟩] scope pos) 1 it (.ref D) env).onRaise (fun x => do noteFrame x env; theTreesLotGoes x)) _ _ s
  refine wpAny_noted ?_
  rw [dTurn1]
  refine wpAny_bind (wpAny_standAt (wpAny_bind (wpAny_mono (turn n s hI) (fun r s₁ h₁ => ?_) fun _ _ z => z)))
  rcases r with _ | v
  · exact wpAny_pure h₁
  refine wpAny_bind (wpAny_mono h₁ (fun _ s₁' h₁' => wpAny_bind (wpAny_mono h₁' (fun _ s₂ h₂ => wpAny_bind (wpAny_mono h₂ (fun ok s₃ h₃ => ?_) fun _ _ z => z)) fun _ _ z => z)) fun _ _ z => z)
  rcases ok with _ | _
  · exact wpAny_pure ⟨rfl, h₃⟩
  exact wpAny_bind (wpAny_bind (wpAny_mono h₃ (fun kv s₄ h₄ => wpAny_bind (wpAny_holding (wpAny_mono h₄ (fun vv s₅ h₅ => wpAny_bind (wpAny_standAt (wpAny_holding (wpAny_mono h₅ (fun _ s₆ h₆ => wpAny_pure ⟨rfl, h₆⟩) fun _ _ z => z)))) fun _ _ z => z))) fun _ _ z => z))
theorem dStart1 (h0 : codeAny (model prog w) A (.compLoop (.DictComp kx vx [⟨t0, i0, ifs0, 0⟩, ⟨t1, i1, ifs1, 0⟩] scope pos) 1 it (.ref D) env) R s)
    (h : wpAny (model prog w) A (pyIter it) (fun it' s' => codeAny (model prog w) A (.compLoop (.DictComp kx vx [⟨t0, i0, ifs0, 0⟩, ⟨t1, i1, ifs1, 0⟩] scope pos) 1 it' (.ref D) env) R s') (err prog w A env R) s) :
    codeAny (model prog w) A (.compStart (.DictComp kx vx [⟨t0, i0, ifs0, 0⟩, ⟨t1, i1, ifs1, 0⟩] scope pos) 1 it (.ref D) env) R s := by
  refine codeAny_of_tree ?_
  show wpAny _ _ ((compStart (.DictComp kx vx [⟨t0, i0, ifs0, 0⟩, ⟨t1, i1, ifs1, 0⟩] scope pos) 1 it (.ref D) env).onRaise (fun x => do noteFrame x env; standAt theWindowsPlace)) _ _ s
  refine wpAny_notedAt ?_
  unfold compStart
  show wpAny _ _ (ask >>= _) _ _ s
  refine wpAny_bind (wpAny_askSetting (wpAny_ite ?_))
  split
  · first
      | exact wpAny_bind (wpAny_pure (wpAny_pure (And.intro rfl h0)))
      | exact wpAny_pure (And.intro rfl h0)
  · first
      | exact wpAny_bind (wpAny_rule (wpAny_bind (wpAny_standAt (wpAny_bind (wpAny_mono h (fun it' s' h' => wpAny_pure (And.intro rfl h')) fun _ _ x => x)))))
      | (refine wpAny_bind (wpAny_rule ?_); show wpAny _ _ (standAt i1.pos >>= _) _ _ s; exact wpAny_bind (wpAny_standAt (wpAny_bind (wpAny_mono h (fun it' s' h' => wpAny_pure (And.intro rfl h')) fun _ _ x => x))))
end
end L2.Dx

set_option Elab.async false
set_option linter.all false
set_option maxRecDepth 100000
set_option maxHeartbeats 4000000
namespace L2.Dx
open PySem PySem.Spec PyProof.Rows L2
/-- a new empty dict, as it is told -/
def NewD (o : HO) : Prop := ∀ {P : Program} {w : World} {H : Hp} (h : Heap), sysModules < h.objs.size → ObjOk P w H (h.push { cls := .type "dict", data := .dict #[] }) h.objs.size o
theorem newK : NewD (.dK []) := fun h b => dk_empty h b
theorem newT : NewD (.dT []) := fun h b => dt_empty h b
section
variable {X : Cx}
/-- {kx: vx for tg in iter if .. for tg1 in iter1 if ..}; o: the new dict, keys of one kind -/
def tDc2 (o : HO) (wi : TI) (g : TG) (tt : TT) (wi1 : TI) (g1 : TG) (tt1 : TT) (tk tv : TE) (vs vs1 : List Nat) : TE := fun σ H Q => wi σ H fun J H1 => ∀ D, H1 D = none → ∃ W : Nat → Nat → Hp → Prop, (∃ m, W 0 m (upd H1 D o)) ∧ ∀ i m H, W i m H →
  (J.stop i H ∧ Q (.ref D) H) ∨ (J.go i H ∧ ∃ Nx : Hp → Prop, (∀ H', Nx H' → ∃ m', m' < m ∧ W (i + 1) m' H') ∧ ∀ x H', J.yld i H x H' → g x (wipe σ vs) H' fun σ2 H2 => wipe σ2 vs = wipe σ vs ∧ tt σ2 H2 fun b H3 =>
    if b = true then wi1 σ2 H3 fun J1 H4 => ∃ W1 : Nat → Nat → Hp → Prop, (∃ m, W1 0 m H4) ∧ ∀ j k H, W1 j k H →
      (J1.stop j H ∧ Nx H) ∨ (J1.go j H ∧ ∃ Nx1 : Hp → Prop, (∀ H', Nx1 H' → ∃ k', k' < k ∧ W1 (j + 1) k' H') ∧ ∀ x H', J1.yld j H x H' → g1 x (wipe σ2 vs1) H' fun σ3 H5 => wipe σ3 vs1 = wipe σ2 vs1 ∧ tt1 σ3 H5 fun b H6 =>
        if b = true then tk σ3 H6 fun y H7 => tv σ3 H7 fun z H8 => ∃ H9, DPut H8 D y z H9 ∧ Nx1 H9 else Nx1 H6)
    else Nx H3)
theorem dc2_core {pins : List (Addr × Obj)} {s : Shared} {σ : St} {H : Hp} {Q : VK} {kx vx tg iter tg1 iter1 : Expr} {ifs ifs1 : List Expr} {scope : Scope} {own : List (Str × Nat)} {vs1 : List Nat} {pos pos' : Pos} {o0 : HO} {wi wi1 : TI} {g g1 : TG} {tt tt1 : TT} {tk tv : TE} {use : Option (Value → Sem Unit)} {Qf : Value → Shared → Prop}
    (hu : X.A.units + 1 < cLine) (nw : NewD o0) (hc : X.calm = true) (hN : X.N.Nodup) (I : Inv X pins σ H s) (hi : PI X tg iter wi) (ok : BlkOk X.N X.env.scope scope own) (hv : ∀ i ∈ vs1, i ∈ own.map (·.2))
    (hg : ∀ (s : Shared) (H : Hp) (C : Addr) (cl : List (Str × Addr)) (fp : List Addr), PG (X.blk s H scope (compEnvC scope cl C X.env) fp) tg g) (ht : ∀ (s : Shared) (H : Hp) (C : Addr) (cl : List (Str × Addr)) (fp : List Addr), PTs (X.blk s H scope (compEnvC scope cl C X.env) fp) ifs tt)
    (hs : ∀ x, foldedSetIterable iter X.env x = pure x)
    (hi1 : ∀ (s : Shared) (H : Hp) (C : Addr) (cl : List (Str × Addr)) (fp : List Addr), PI (X.blk s H scope (compEnvC scope cl C X.env) fp) tg1 iter1 wi1)
    (hg1 : ∀ (s : Shared) (H : Hp) (C : Addr) (cl : List (Str × Addr)) (fp : List Addr), PG (X.blk s H scope (compEnvC scope cl C X.env) fp) tg1 g1)
    (ht1 : ∀ (s : Shared) (H : Hp) (C : Addr) (cl : List (Str × Addr)) (fp : List Addr), PTs (X.blk s H scope (compEnvC scope cl C X.env) fp) ifs1 tt1)
    (hk : ∀ (s : Shared) (H : Hp) (C : Addr) (cl : List (Str × Addr)) (fp : List Addr), PE (X.blk s H scope (compEnvC scope cl C X.env) fp) kx tk)
    (he : ∀ (s : Shared) (H : Hp) (C : Addr) (cl : List (Str × Addr)) (fp : List Addr), PE (X.blk s H scope (compEnvC scope cl C X.env) fp) vx tv)
    (hs1 : ∀ env x, foldedSetIterable iter1 env x = pure x)
    (h : tDc2 o0 wi g tt wi1 g1 tt1 tk tv (own.map (·.2)) vs1 σ H Q)
    (hRR : ∀ D C s' m H', Inv X pins σ H' s' → Q (.ref D) H' → s'.heap.Ns C m → FpOk X pins H' C → compPost (model X.prog X.w) X.A X.xe use Qf (.ref D) C (.ok .next) s') :
    wpAny (model X.prog X.w) X.A (comprehension (.DictComp kx vx [⟨tg, iter, ifs, 0⟩, ⟨tg1, iter1, ifs1, 0⟩] scope pos) scope X.env pos' newDict false (eval iter X.env) use) Qf X.xe s := by
  have free : ∀ y ∈ scope.names, y.2 = .free → ∃ c, X.env.cells.lookup y.1 = some c := fun y hy e => (ok.free y hy e).elim (fun k => I.ok.has _ (.inl k)) fun k => I.ok.has _ (.inr k)
  refine wpAny_comprehension_free (use := use) rfl hs (closure_ok free) ok.kind (fun y hy e => by rw [ok.uniq y hy, e]) (thn (hi.run pins s σ H _ I h) fun xv s1 hx => thn hx fun itv s2 h2 => ?_)
  obtain ⟨it, fp, tn, J, H2, e, I2, T, st2, f2, q⟩ := h2
  subst e
  refine wpAny_newObj_type (newEnv_comp ?_)
  generalize hD : s2.heap.objs.size = D
  obtain ⟨W, ⟨m0, w0⟩, turn⟩ := q D (I2.hok.fresh (Nat.le_of_eq hD))
  generalize hs3 : ({ s2 with heap := s2.heap.push { cls := .type "dict", data := .dict #[] } } : Shared) = s3
  have I3 : Inv X pins σ (upd H2 D o0) s3 := by
    rw [← hs3]
    refine I2.laid (t' := s2.toks) (fun b o e => Heap.get?_push_of_some _ e) (Nat.le_of_eq hD) ?_
    rw [← hD]
    exact nw s2.heap I2.big
  have h3 : s3.heap = s2.heap.push { cls := .type "dict", data := .dict #[] } := by rw [← hs3]
  have f3 : ∀ b ∈ fp, FpOk X pins (upd H2 D o0) b ∧ b < s3.heap.objs.size := fun b hb => by
    have lt : b < s2.heap.objs.size := (T.obj _ _ st2 b hb).elim fun _ z => Heap.lt_size z.1
    refine ⟨⟨(upd_ne (by rw [← hD]; exact Nat.ne_of_lt lt)).trans (f2 b hb).1, (f2 b hb).2⟩, by rw [h3, Heap.size_push]; exact Nat.lt_succ_of_lt lt⟩
  have st3 : tn 0 s3.heap := T.keep _ _ _ st2 fun b _ o e => by rw [h3]; exact Heap.get?_push_of_some _ e
  have I4 := block_start I3 ok hN f3
  generalize hcl : cellsFrom (s3.heap.objs.size + 1) scope.names (cloFrom X.env.cells scope.names []) = cl at I4 ⊢
  have pg := hg s3 (upd H2 D o0) s3.heap.objs.size cl fp
  have pt := ht s3 (upd H2 D o0) s3.heap.objs.size cl fp
  have pk := hk s3 (upd H2 D o0) s3.heap.objs.size cl fp
  have pe := he s3 (upd H2 D o0) s3.heap.objs.size cl fp
  have pi1 := hi1 s3 (upd H2 D o0) s3.heap.objs.size cl fp
  have pg1 := hg1 s3 (upd H2 D o0) s3.heap.objs.size cl fp
  have pt1 := ht1 s3 (upd H2 D o0) s3.heap.objs.size cl fp
  show codeAny _ _ (.compStart (.DictComp kx vx [⟨tg, iter, ifs, 0⟩, ⟨tg1, iter1, ifs1, 0⟩] scope pos) 0 (.ref it) (.ref D) (compEnvC scope cl s3.heap.objs.size X.env)) (compPost (model X.prog X.w) X.A X.xe use Qf (.ref D) s3.heap.objs.size) { s3 with heap := pushCells (s3.heap.push { cls := .type "dict", data := .dict #[] }) scope.names }
  have nfp : ∀ b ∈ fp, (upd H2 D o0) b = none := fun b hb => (f3 b hb).1.1
  generalize hce : compEnvC scope cl s3.heap.objs.size X.env = ce at I4 pg pt pk pe pi1 pg1 pt1 ⊢
  have cL : ce.locals = s3.heap.objs.size := by subst hce; rfl
  generalize hH3 : upd H2 D o0 = H3 at I3 I4 pg pt pk pe pi1 pg1 pt1 w0 nfp f3
  generalize hs4 : ({ s3 with heap := pushCells (s3.heap.push { cls := .type "dict", data := .dict #[] }) scope.names } : Shared) = s4 at I4 ⊢
  have st4 : tn 0 s4.heap := T.keep _ _ _ st3 fun b _ o e => by rw [← hs4]; exact pushCells_keeps _ _ _ _ (Heap.get?_push_of_some _ e)
  generalize hY : X.blk s3 H3 scope ce fp = Y at I4 pg pt pk pe pi1 pg1 pt1
  have yA : Y.A = X.A := by rw [← hY]
  have yP : Y.prog = X.prog := by rw [← hY]
  have yW : Y.w = X.w := by rw [← hY]
  have yK : Y.K = X.K := by rw [← hY]
  have yc : Y.calm = true := by rw [← hY]; exact hc
  have yx : Y.xe = fun _ _ => False := by rw [← hY]
  have ye : Y.env = ce := by rw [← hY]
  have yex : Y.ex = fp := by rw [← hY]
  have ypn : Y.pn = [] := by rw [← hY]
  have stat : ∀ {σ' : St} {H' : Hp} {s' : Shared}, Inv Y [] σ' H' s' → (∀ b ∈ fp, H' b = none) → ∀ b ∈ fp, FpOk Y [] H' b := fun {σ' H' s'} I' hn b hb =>
    ⟨hn b hb, (I'.ok.exf b (by rw [yex]; exact hb)).1, I'.ok.exfs b (by rw [yex]; exact hb), .inl (by rw [yex]; exact hb), fun x c e => (I'.ok.exf b (by rw [yex]; exact hb)).2 x c e, fun p hp => by rw [ypn] at hp; cases hp⟩
  have loop : codeAny (model X.prog X.w) X.A (.compLoop (.DictComp kx vx [⟨tg, iter, ifs, 0⟩, ⟨tg1, iter1, ifs1, 0⟩] scope pos) 0 (.ref it) (.ref D) ce) (compPost (model X.prog X.w) X.A X.xe use Qf (.ref D) s3.heap.objs.size) s4 := by
    subst hY
    refine dLoop0 (hs1 ce) (fun n s' => ∃ i H', Inv (X.blk s3 H3 scope ce fp) [] (wipe σ (own.map (·.2))) H' s' ∧ tn i s'.heap ∧ (∀ b ∈ fp, H' b = none) ∧ W i n H') ?_ m0 ⟨0, H3, I4, st4, nfp, w0⟩
    rintro n s5 ⟨i, H5, I5, st5, n5, w5⟩
    rcases turn i n H5 w5 with ⟨stop, qq⟩ | ⟨go, Nx, hNx, step⟩
    · refine thnF (T.done (X.blk s3 H3 scope ce fp) rfl rfl rfl hc i [] s5 _ H5 (fun _ _ => False) I5 (stat I5 n5) st5 stop) fun r s6 ⟨hr, I6⟩ => ?_
      subst hr
      have I7 : Inv X pins σ H5 s6 := I3.call' (ch := fp) I6.os I6.base I6.hok I6.bare fun b hb => ⟨(f3 b hb).1.2.2.2.1, (f3 b hb).1.2.1, (f3 b hb).1.2.2.2.2.1, (f3 b hb).1.2.2.2.2.2⟩
      obtain ⟨m, hn, _⟩ := I6.loc
      exact hRR D s3.heap.objs.size s6 m H5 I7 qq (cL ▸ hn) (I3.fpOk (Nat.le_refl _) (cL ▸ I6.free))
    · refine thnF (T.item (X.blk s3 H3 scope ce fp) rfl rfl rfl hc i [] s5 _ H5 (fun _ _ => False) I5 (stat I5 n5) st5 go) fun r s6 ⟨u, hr, h6⟩ => ?_
      subst hr
      refine thnF h6 fun _ s7 ⟨x, H7, I7, r7, y7, st7, n7⟩ => ?_
      refine thnF (pg.run _ s7 _ H7 x u _ (I7.pinned (stat I7 n7) (T.obj _ _ st7)) r7 (step x H7 y7)) fun _ s8 ⟨σ8, H8, I8, hw8, q8⟩ => ?_
      refine thnF (pt.run _ s8 σ8 H8 _ I8 q8) fun b s9 ⟨H9, I9, q9⟩ => ?_
      have fin : ∀ {σ9 : St} {s' : Shared} {H' : Hp}, Inv (X.blk s3 H3 scope ce fp) ([] ++ pinsAt fp s7.heap) σ9 H' s' → (wipe σ (own.map (·.2))).length = σ9.length → (∀ (j : Nat) v, (wipe σ (own.map (·.2)))[j]? = some (some v) → σ9[j]? = some (some v)) → Nx H' →
          ∃ m, m < n ∧ ∃ i H', Inv (X.blk s3 H3 scope ce fp) [] (wipe σ (own.map (·.2))) H' s' ∧ tn i s'.heap ∧ (∀ b ∈ fp, H' b = none) ∧ W i m H' := fun {σ9 s' H'} I' hl hk nx => by
        obtain ⟨m', hm, w'⟩ := hNx H' nx
        have pin' : ∀ b ∈ fp, ∀ o, s7.heap.get? b = some o → s'.heap.get? b = some o ∧ H' b = none := fun b hb o e =>
          have z := I'.pin (b, o) (List.mem_append_right _ (List.mem_append_right _ (mem_pinsAt hb e)))
          ⟨z.1, z.2.1⟩
        exact ⟨m', hm, i + 1, H', (I'.unpinned (pins := [])).weak hl hk, T.keep _ _ _ st7 fun b hb o e => (pin' b hb o e).1, fun b hb => (T.obj _ _ st7 b hb).elim fun o e => (pin' b hb o e.1).2, w'⟩
      have hl8 : (wipe σ (own.map (·.2))).length = σ8.length := by rw [← hw8, wipe_length]
      have hk8 : ∀ (j : Nat) v, (wipe σ (own.map (·.2)))[j]? = some (some v) → σ8[j]? = some (some v) := fun j v e => (wipe_some (hw8 ▸ e)).1
      have hk9 : ∀ (j : Nat) v, (wipe σ (own.map (·.2)))[j]? = some (some v) → (wipe σ8 vs1)[j]? = some (some v) := fun j v e => by
        obtain ⟨e1, e2⟩ := wipe_some (hw8 ▸ e)
        exact (wipe_out fun z => e2 (hv j z)).trans e1
      cases b with
      | false =>
        simp only [Bool.false_eq_true, if_false] at q9 ⊢
        exact fin I9 hl8 hk8 q9
      | true =>
        simp only [if_true] at q9 ⊢
        refine thnF (pi1.run _ s9 σ8 H9 _ I9 q9) fun xv s10 hx => thnF hx fun itv s11 h11 => ?_
        obtain ⟨it1, fp1, tn1, J1, H11, e1, I11, T1, st11, f11, W1, ⟨m1, w1⟩, turn1⟩ := h11
        subst e1
        have stat1 : ∀ {H' : Hp}, (∀ b ∈ fp1, H' b = none) → ∀ b ∈ fp1, FpOk (X.blk s3 H3 scope ce fp) ([] ++ pinsAt fp s7.heap) H' b := fun hn b hb => ⟨hn b hb, (f11 b hb).2⟩
        have loop1 : codeAny (model X.prog X.w) X.A (.compLoop (.DictComp kx vx [⟨tg, iter, ifs, 0⟩, ⟨tg1, iter1, ifs1, 0⟩] scope pos) 1 (.ref it1) (.ref D) ce)
            (fun r s' => match r with
              | .ok _ => ∃ m, m < n ∧ ∃ i H', Inv (X.blk s3 H3 scope ce fp) [] (wipe σ (own.map (·.2))) H' s' ∧ tn i s'.heap ∧ (∀ b ∈ fp, H' b = none) ∧ W i m H'
              | .error _ => False) s11 := by
          refine dLoop1 (fun k s' => ∃ j H', Inv (X.blk s3 H3 scope ce fp) ([] ++ pinsAt fp s7.heap) (wipe σ8 vs1) H' s' ∧ tn1 j s'.heap ∧ (∀ b ∈ fp1, H' b = none) ∧ W1 j k H') ?_ m1 ⟨0, H11, I11.weak (wipe_length _ _) (fun j v e => (wipe_some e).1), st11, fun b hb => (f11 b hb).1, w1⟩
          rintro k s12 ⟨j, H12, I12, st12, n12, w12⟩
          rcases turn1 j k H12 w12 with ⟨stop1, nx1⟩ | ⟨go1, Nx1, hNx1, step1⟩
          · refine thnF (T1.done (X.blk s3 H3 scope ce fp) rfl rfl rfl hc j _ s12 (wipe σ8 vs1) H12 (fun _ _ => False) I12 (stat1 n12) st12 stop1) fun r s13 ⟨hr, I13⟩ => ?_
            subst hr
            exact fin I13 (hl8.trans (wipe_length σ8 vs1).symm) hk9 nx1
          · refine thnF (T1.item (X.blk s3 H3 scope ce fp) rfl rfl rfl hc j _ s12 (wipe σ8 vs1) H12 (fun _ _ => False) I12 (stat1 n12) st12 go1) fun r s13 ⟨u1, hr, h13⟩ => ?_
            subst hr
            refine thnF h13 fun _ s14 ⟨x1, H14, I14, r14, y14, st14, n14⟩ => ?_
            refine thnF (pg1.run _ s14 (wipe σ8 vs1) H14 x1 u1 _ (I14.pinned (stat1 n14) (T1.obj _ _ st14)) r14 (step1 x1 H14 y14)) fun _ s15 ⟨σ15, H15, I15, hw15, q15⟩ => ?_
            refine thnF (pt1.run _ s15 σ15 H15 _ I15 q15) fun b1 s16 ⟨H16, I16, q16⟩ => ?_
            have fin1 : ∀ {s' : Shared} {H' : Hp}, Inv (X.blk s3 H3 scope ce fp) (([] ++ pinsAt fp s7.heap) ++ pinsAt fp1 s14.heap) σ15 H' s' → Nx1 H' → ∃ m, m < k ∧ ∃ j H', Inv (X.blk s3 H3 scope ce fp) ([] ++ pinsAt fp s7.heap) (wipe σ8 vs1) H' s' ∧ tn1 j s'.heap ∧ (∀ b ∈ fp1, H' b = none) ∧ W1 j m H' := fun {s' H'} I' nx => by
              obtain ⟨m', hm, w'⟩ := hNx1 H' nx
              have pin' : ∀ b ∈ fp1, ∀ o, s14.heap.get? b = some o → s'.heap.get? b = some o ∧ H' b = none := fun b hb o e =>
                have z := I'.pin (b, o) (List.mem_append_right _ (List.mem_append_right _ (mem_pinsAt hb e)))
                ⟨z.1, z.2.1⟩
              exact ⟨m', hm, j + 1, H', I'.unpinned.weak (by rw [← hw15, wipe_length]) (fun j v e => (wipe_some (hw15 ▸ e)).1), T1.keep _ _ _ st14 fun b hb o e => (pin' b hb o e).1, fun b hb => (T1.obj _ _ st14 b hb).elim fun o e => (pin' b hb o e.1).2, w'⟩
            cases b1 with
            | false =>
              simp only [Bool.false_eq_true, if_false] at q16 ⊢
              exact fin1 I16 q16
            | true =>
              simp only [if_true] at q16 ⊢
              refine thnF (pk.run _ s16 σ15 H16 _ I16 q16) fun z s17 ⟨yk, H17, I17, r17, q17⟩ => ?_
              refine thnF (pe.run _ s17 σ15 H17 _ I17 q17) fun z2 s18 ⟨yv, H18, I18, r18, H19, hput, nx⟩ => ?_
              exact put_ok (X := X.blk s3 H3 scope ce fp) hu I18 hput r17 r18 fun s19 I19 => fin1 I19 nx
        exact dStart1 loop1 (T1.self X.A 0 _ _ _ st11 loop1)
  exact codeAny_compStart_dict loop (T.self X.A 0 _ _ _ st4 loop)
theorem pe_dc2 {kx vx tg iter tg1 iter1 : Expr} {ifs ifs1 : List Expr} {scope : Scope} {own : List (Str × Nat)} {vs1 : List Nat} {pos : Pos} {o0 : HO} {wi wi1 : TI} {g g1 : TG} {tt tt1 : TT} {tk tv : TE} (hu : X.A.units + 1 < cLine) (nw : NewD o0) (hc : X.calm = true) (hN : X.N.Nodup) (hi : PI X tg iter wi) (ok : BlkOk X.N X.env.scope scope own) (hv : ∀ i ∈ vs1, i ∈ own.map (·.2))
    (hg : ∀ (s : Shared) (H : Hp) (C : Addr) (cl : List (Str × Addr)) (fp : List Addr), PG (X.blk s H scope (compEnvC scope cl C X.env) fp) tg g) (ht : ∀ (s : Shared) (H : Hp) (C : Addr) (cl : List (Str × Addr)) (fp : List Addr), PTs (X.blk s H scope (compEnvC scope cl C X.env) fp) ifs tt)
    (hi1 : ∀ (s : Shared) (H : Hp) (C : Addr) (cl : List (Str × Addr)) (fp : List Addr), PI (X.blk s H scope (compEnvC scope cl C X.env) fp) tg1 iter1 wi1)
    (hg1 : ∀ (s : Shared) (H : Hp) (C : Addr) (cl : List (Str × Addr)) (fp : List Addr), PG (X.blk s H scope (compEnvC scope cl C X.env) fp) tg1 g1)
    (ht1 : ∀ (s : Shared) (H : Hp) (C : Addr) (cl : List (Str × Addr)) (fp : List Addr), PTs (X.blk s H scope (compEnvC scope cl C X.env) fp) ifs1 tt1)
    (hk : ∀ (s : Shared) (H : Hp) (C : Addr) (cl : List (Str × Addr)) (fp : List Addr), PE (X.blk s H scope (compEnvC scope cl C X.env) fp) kx tk)
    (he : ∀ (s : Shared) (H : Hp) (C : Addr) (cl : List (Str × Addr)) (fp : List Addr), PE (X.blk s H scope (compEnvC scope cl C X.env) fp) vx tv)
    (hs : ∀ x, foldedSetIterable iter X.env x = pure x := by intro _; rfl) (hs1 : ∀ env x, foldedSetIterable iter1 env x = pure x := by intro _ _; rfl) :
    PE X (.DictComp kx vx [⟨tg, iter, ifs, 0⟩, ⟨tg1, iter1, ifs1, 0⟩] scope pos) (tDc2 o0 wi g tt wi1 g1 tt1 tk tv (own.map (·.2)) vs1) := by
  refine ⟨fun pins s σ H Q I h => ?_⟩
  rw [arm_eval_DictComp]
  refine dc2_core hu nw hc hN I hi ok hv hg ht hs hi1 hg1 ht1 hk he hs1 h fun D C s' m H' I' q hn f => ⟨m, hn, fun h'' sb => ?_⟩
  obtain ⟨f0, f1, f2, f3, f4, f5⟩ := f
  exact ⟨.ref D, H', I'.turned (t' := s'.toks) (fun b o hb e => (sb.2 b hb).trans e) f0 f1 f3 f4 f5, rfl, q⟩
end
end L2.Dx

set_option Elab.async false
set_option linter.all false
set_option maxRecDepth 100000
set_option maxHeartbeats 4000000
namespace L2.Dx
open PySem PySem.Spec PyProof.Rows L2
theorem swd_true {kx vx : Expr} {gs : List Comprehension} {scope : Scope} {pos py : Pos} {y : Str} {l : Nat} {env : Env} (hk : env.scope.kind = .function) (hy : env.scope.names.lookup y = some .local) (hl : (py.line == pos.line) = true)
    (ha : (scope.names.any fun (n, k) => n == y && (k == .local || k == .cell)) = false) : swapsWith (.DictComp kx vx gs scope pos) (some (.Name y py)) l env = pure true := by
  have e1 : env.kindOf y = some .local := hy
  have e2 : env.blockKind = .function := by
    unfold Env.blockKind
    rw [hk]
    rfl
  unfold swapsWith
  simp only [e2, e1, ha, Expr.pos, hl]
  rfl
section
variable {X : Cx}
/-- y = {kx: vx for ..}: the new dict is stored where the comprehension ends -/
theorem ps_setDc {i : Nat} {y : Str} {py : Pos} {kx vx tg iter : Expr} {ifs : List Expr} {scope : Scope} {own : List (Str × Nat)} {pos spos : Pos} {wi : TI} {g : TG} {tt : TT} {tk tv : TE} (hc : X.calm = true) (hN : X.N.Nodup) (hy : X.N[i]? = some y) (hyl : X.env.scope.names.lookup y = some .local)
    (hsw : swapsWith (.DictComp kx vx [⟨tg, iter, ifs, 0⟩] scope pos) (some (.Name y py)) spos.line X.env = pure true) (hi : PI X tg iter wi) (ok : BlkOk X.N X.env.scope scope own)
    (hg : ∀ (s : Shared) (H : Hp) (C : Addr) (cl : List (Str × Addr)) (fp : List Addr), PG (X.blk s H scope (compEnvC scope cl C X.env) fp) tg g) (ht : ∀ (s : Shared) (H : Hp) (C : Addr) (cl : List (Str × Addr)) (fp : List Addr), PTs (X.blk s H scope (compEnvC scope cl C X.env) fp) ifs tt)
    (hk : ∀ (s : Shared) (H : Hp) (C : Addr) (cl : List (Str × Addr)) (fp : List Addr), PE (X.blk s H scope (compEnvC scope cl C X.env) fp) kx tk)
    (he : ∀ (s : Shared) (H : Hp) (C : Addr) (cl : List (Str × Addr)) (fp : List Addr), PE (X.blk s H scope (compEnvC scope cl C X.env) fp) vx tv) (hs : ∀ x, foldedSetIterable iter X.env x = pure x := by intro _; rfl) :
    PS X (.Assign [.Name y py] (.DictComp kx vx [⟨tg, iter, ifs, 0⟩] scope pos) spos) (tAsg (tDc wi g tt tk tv (own.map (·.2))) (gName i)) := by
  refine ⟨fun pins s σ H D I h => ?_⟩
  rw [exec_Assign_Name_used _ _ _ _ hsw]
  refine wpAny_bind (wpAny_standAt (wpAny_bind ?_))
  show wpAny _ X.A (do let _ ← comprehension (.DictComp kx vx [⟨tg, iter, ifs, 0⟩] scope pos) scope X.env (firstIterPos [⟨tg, iter, ifs, 0⟩] pos) newDict false (eval iter X.env) (some (assign (.Name y py) X.env))) _ _ s
  have h : tDc wi g tt tk tv (own.map (·.2)) σ H (fun x H1 => gName i x σ H1 D.nx) := h
  refine wpAny_bind (thn (dc_core (Qf := fun _ s' => SP X pins D .next s') hc hN I hi ok hg ht hk he hs h fun L C s' m H' I' q hn f => ?_) fun _ s' hq => wpAny_pure (wpAny_pure hq))
  show wpAny _ _ (assign (.Name y py) X.env (.ref L)) _ _ _
  refine wpAny_assign_Name (store_ok2 (v := V.ref L) I' hN hy (.inl hyl) rfl (fun s2 I2 ⟨a, sb, ha⟩ => ?_) (.inr hyl))
  obtain ⟨f0, f1, f2, f3, f4, f5⟩ := f
  have other : C ≠ a := ha.elim (fun z => by rw [z]; exact f1) fun z e => f4 y a z e.symm
  exact ⟨m, hn.sameBut sb other, fun h3 sb3 => ⟨_, H', I2.turned (t' := s2.toks) (fun b o hb e => (sb3.2 b hb).trans e) f0 f1 f3 f4 f5, q⟩⟩
end
end L2.Dx

set_option Elab.async false
set_option linter.all false
set_option maxRecDepth 100000
set_option maxHeartbeats 4000000
namespace L2.Dx
open PySem PySem.Spec PyProof.Rows L2
/-! rules that name the written part, for blocks of comprehensions: the block's is the def's -/
section
variable {X : Cx} {K : PySem.W.Frag} (hK : X.K = K)
include hK
theorem ix_listK : IxR X (rIxL K) := by subst hK; exact ix_list
theorem ix_tupK : IxR X (rIxT K) := by subst hK; exact ix_tup
theorem sl_listK : SlR X (rSlL K) := by subst hK; exact sl_list
theorem pi_listK {tg l : Expr} {tl : TE} (h : PE X l tl) : PI X tg l (iList K tl) := by subst hK; exact pi_list h
theorem pg_tupK {es : List Expr} {k : Nat} {pos : Pos} {t : TGs} (n : Nat) (hc : X.calm = true) (h : PGs X es t) (hn : (assignEach es X.env).length = n := by rfl) (hst : (assignEach es X.env).findIdx? (·.1) = none := by rfl) :
    PG X (.Tuple es k pos) (gTup K n t) := by subst hK; exact pg_tup hc h hn hst
theorem op_in_seqK : OpR X (compareOp .In) (rIn K false) := by subst hK; exact op_in_seq
theorem op_notIn_seqK : OpR X (compareOp .NotIn) (rIn K true) := by subst hK; exact op_notIn_seq
theorem call_len_seqK : CallR X (.builtin "len") (fun xs H Q => ∃ p ys, xs = [.ref p] ∧ (SqL K H p ys ∨ SqT K H p ys) ∧ Q (.int ys.length) H) := by subst hK; exact call_len_seq
theorem call_isiK' : CallR X (.builtin "isinstance") (rIsi K) := by subst hK; exact call_isi
theorem pi_enumK {e : Expr} {ta : TA} {p pos tpos : Pos} {elts : List Expr} {kk : Nat} (hg : Gl X "enumerate") (hm : X.mg "enumerate" = none) (ha : PA X [e] ta) (hs : starEach [e] X.env = [(false, eval e X.env)] := by rfl) :
    PI X (.Tuple elts kk tpos) (.Call (.Name "enumerate" p) [e] [] pos) (iEnum K ta) := by subst hK; exact pi_enum hg hm ha hs
theorem pi_enumSK {e : Expr} {ta : TA} {p pos tpos p2 kp : Pos} {elts : List Expr} {kk : Nat} {k : Int} {j : Nat} (k0 : -(2 ^ 63) ≤ k) (k1 : k < 2 ^ 63) (hg : Gl X "enumerate") (hm : X.mg "enumerate" = none) (ha : PA X [e] ta)
    (hs : starEach [e] X.env = [(false, eval e X.env)] := by rfl) : PI X (.Tuple elts kk tpos) (.Call (.Name "enumerate" p) [e] [⟨some (Str.ofString "start"), .Constant (.int k) j p2, kp⟩] pos) (iEnumS K k ta) := by subst hK; exact pi_enumS k0 k1 hg hm ha hs
theorem op_eqDK (hu : X.A.units + 64 < cLine) : OpR X (compareOp .Eq) (rEqD K) := by subst hK; exact op_eqD hu
theorem op_neDK (hu : X.A.units + 64 < cLine) : OpR X (compareOp .NotEq) (rNeD K) := by subst hK; exact op_neD hu
end
end L2.Dx

set_option Elab.async false
set_option linter.all false
set_option maxRecDepth 100000
set_option maxHeartbeats 4000000
namespace Kx
open PySem PySem.Spec PyProof.Rows L2
/-- ** of ints of any size that the model takes -/
def CPowW (i j : Int) : Prop := 0 ≤ j ∧ (Builtin.Int.intBits i : Int) * j ≤ 2 ^ 27
section
variable {X : Cx}
theorem op_powW : OpR X (binaryOp .Pow) (rI CPowW fun i j => .int (i ^ j.toNat)) := opI fun _ _ _ _ _ _ _ hc q => pow_int hc.1 hc.2 q
end
theorem bits_lt {i : Int} {b : Nat} (h0 : 0 < b) (h : i.natAbs < 2 ^ b) : Builtin.Int.intBits i ≤ b := by
  have := PySem.Flt.log2_lt_of h0 h
  unfold Builtin.Int.intBits
  split <;> omega
theorem wide_pow {i j : Int} {b : Nat} (h0 : 0 < b) (h : i.natAbs < 2 ^ b) (hj : 0 ≤ j) (hb : (b : Int) * j ≤ 2 ^ 27) : CPowW i j := by
  refine ⟨hj, Int.le_trans (Int.mul_le_mul_of_nonneg_right (Int.ofNat_le.mpr (bits_lt h0 h)) hj) hb⟩
/-- H' is H but for what stands at the addresses of S -/
def But (S : List Addr) (H H' : Hp) : Prop := ∀ b x, b ∉ S → H b = some x → H' b = some x
theorem But.refl (S : List Addr) (H : Hp) : But S H H := fun _ _ _ e => e
theorem But.trans {S : List Addr} {H H' H'' : Hp} (a : But S H H') (b : But S H' H'') : But S H H'' := fun c x hc e => b c x hc (a c x hc e)
theorem But.mono {S T : List Addr} {H H' : Hp} (a : But S H H') (h : ∀ b ∈ S, b ∈ T) : But T H H' := fun c x hc e => a c x (fun z => hc (h c z)) e
theorem But.same {S : List Addr} {H H' : Hp} (a : Same H H') : But S H H' := fun c x _ e => a c x e
theorem But.put {S : List Addr} {H : Hp} {a : Addr} {o : HO} (h : a ∈ S) : But S H (upd H a o) := fun c x hc e => by
  rw [upd_ne (fun z => hc (by rw [z]; exact h))]
  exact e
theorem But.new {S : List Addr} {H : Hp} {a : Addr} {o : HO} (h : H a = none) : But S H (upd H a o) := fun c x _ e => by
  rw [upd_ne (ne_of_none e h)]
  exact e
end Kx

set_option Elab.async false
set_option linter.all false
set_option maxRecDepth 100000
set_option maxHeartbeats 4000000
namespace KA
open PySem PySem.Spec PyProof.Rows L2 L2.Dx
/-! ### names, nodes -/
abbrev ltS (a b : Str) : Prop := a.cps.toList < b.cps.toList
structure NameOk (z : Str) : Prop where
  lo : 1 ≤ z.length
  hi : z.length ≤ 8
  az : ∀ c ∈ z.cps.toList, 97 ≤ c ∧ c ≤ 122
structure NodesOk (ns : List Str) : Prop where
  lo : 2 ≤ ns.length
  hi : ns.length ≤ 12
  nm : ∀ z ∈ ns, NameOk z
  asc : ns.Pairwise ltS
theorem ltS_irrefl (a : Str) : ¬ ltS a a := List.lt_irrefl _
theorem NodesOk.nodup {ns : List Str} (h : NodesOk ns) : ns.Nodup := h.asc.imp (S := fun a b => a ≠ b) fun {a b} l (e : a = b) => ltS_irrefl b (by rw [e] at l; exact l)
theorem empty_lt {z : Str} (h : NameOk z) : ltS ("" : Str) z := by
  have := h.lo
  obtain ⟨⟨l⟩⟩ := z
  cases l with
  | nil => simp [Str.length] at this
  | cons a r => exact .nil
/-! ### texts of small letters -/
theorem alpha_az {c : Nat} (h : 97 ≤ c ∧ c ≤ 122) : Unicode.isAlpha c = true := by
  have k : (List.range 26).all (fun i => Unicode.isAlpha (97 + i)) = true := by decide +kernel
  rw [List.all_eq_true] at k
  have := k (c - 97) (List.mem_range.mpr (by omega))
  rwa [show 97 + (c - 97) = c by omega] at this
theorem lower_az {c : Nat} (h : 97 ≤ c ∧ c ≤ 122) : Unicode.isLower c = true ∧ (Unicode.isUpper c || Unicode.isTitle c) = false := by
  have k : (List.range 26).all (fun i => Unicode.isLower (97 + i) && !(Unicode.isUpper (97 + i) || Unicode.isTitle (97 + i))) = true := by decide +kernel
  rw [List.all_eq_true] at k
  have := k (c - 97) (List.mem_range.mpr (by omega))
  rw [show 97 + (c - 97) = c by omega] at this
  simpa using this
theorem az_text {z : Str} (h0 : 1 ≤ z.length) (h : ∀ c ∈ z.cps.toList, 97 ≤ c ∧ c ≤ 122) : Txt.isascii z = true ∧ Txt.isalpha z = true ∧ Txt.islower z = true := by
  obtain ⟨⟨l⟩⟩ := z
  refine ⟨?_, ?_, ?_⟩
  · show l.toArray.all (· < 128) = true
    simp only [List.all_toArray, List.all_eq_true, decide_eq_true_eq]
    intro c hc
    have := h c hc
    omega
  · show (decide (l.toArray.size > 0) && l.toArray.all Unicode.isAlpha) = true
    rw [Bool.and_eq_true, decide_eq_true_eq]
    refine ⟨h0, ?_⟩
    simp only [List.all_toArray, List.all_eq_true]
    exact fun c hc => alpha_az (h c hc)
  · show (l.toArray.any Unicode.isLower && !l.toArray.any fun c => Unicode.isUpper c || Unicode.isTitle c) = true
    simp only [List.any_toArray, Bool.and_eq_true, List.any_eq_true, Bool.not_eq_true', List.any_eq_false]
    cases l with
    | nil => simp [Str.length] at h0
    | cons a r =>
      refine ⟨⟨a, List.mem_cons_self, (lower_az (h a List.mem_cons_self)).1⟩, fun c hc => ?_⟩
      rw [(lower_az (h c hc)).2]
      simp
theorem join_mem {c : Nat} : ∀ {zs : List Str}, c ∈ (Str.join ("" : Str) zs).cps.toList → ∃ z ∈ zs, c ∈ z.cps.toList
  | [], h => by cases h
  | [x], h => ⟨x, List.mem_cons_self, h⟩
  | x :: y :: r, h => by
    have h : c ∈ ((x ++ ("" : Str)) ++ Str.join ("" : Str) (y :: r)).cps.toList := h
    rw [show ((x ++ ("" : Str)) ++ Str.join ("" : Str) (y :: r)).cps = (x.cps ++ ("" : Str).cps) ++ (Str.join ("" : Str) (y :: r)).cps from rfl] at h
    simp only [Array.toList_append, List.mem_append] at h
    rcases h with (h | h) | h
    · exact ⟨x, List.mem_cons_self, h⟩
    · cases h
    · obtain ⟨z, hz, hc⟩ := join_mem h
      exact ⟨z, List.mem_cons_of_mem _ hz, hc⟩
theorem join_len {x : Str} : ∀ {zs : List Str}, x ∈ zs → x.length ≤ (Str.join ("" : Str) zs).length
  | [y], h => by cases List.mem_singleton.mp h; exact Nat.le_refl _
  | y :: z :: r, h => by
    show x.length ≤ ((y ++ ("" : Str)) ++ Str.join ("" : Str) (z :: r)).length
    rw [Str.length_append, Str.length_append]
    rcases List.mem_cons.mp h with rfl | h
    · omega
    · have := join_len h
      omega
theorem sum_len : ∀ (zs : List Str), (∀ z ∈ zs, z.length ≤ 8) → (zs.map (·.length)).sum ≤ 8 * zs.length
  | [], _ => Nat.le_refl _
  | z :: r, h => by
    have h1 := h z List.mem_cons_self
    have h2 := sum_len r fun y hy => h y (List.mem_cons_of_mem _ hy)
    simp only [List.map_cons, List.sum_cons, List.length_cons]
    omega
theorem nodes_text {ns : List Str} (h : NodesOk ns) : Txt.isascii (Txt.join ("" : Str) ns) = true ∧ Txt.isalpha (Txt.join ("" : Str) ns) = true ∧ Txt.islower (Txt.join ("" : Str) ns) = true := by
  rw [show Txt.join ("" : Str) ns = Str.join ("" : Str) ns from StrLaws.glued_eq_join _ _]
  refine az_text ?_ fun c hc => ?_
  · cases ns with
    | nil => have := h.lo; simp at this
    | cons x r =>
      exact Nat.le_trans (h.nm x List.mem_cons_self).lo (join_len List.mem_cons_self)
  · obtain ⟨z, hz, hc⟩ := join_mem hc
    exact (h.nm z hz).az c hc
/-! ### small words over heaps -/
theorem same_new {H : Hp} {p : Addr} {o : HO} (h : H p = none) : Same H (upd H p o) := fun b x e => (upd_ne (ne_of_none e h)).trans e
theorem same_put {H0 H : Hp} {p : Addr} {o : HO} (s : Same H0 H) (h : H0 p = none) : Same H0 (upd H p o) := fun b x e => (upd_ne (ne_of_none e h)).trans (s b x e)
theorem free0 {H0 H : Hp} {p : Addr} (s : Same H0 H) (h : H p = none) : H0 p = none := s.free h
theorem ltI {H : Hp} {K : PySem.W.Frag} {a : Addr} {xs : List V} (h : H a = some (.lst xs)) : SqL K H a xs := .inl (.inl h)
theorem tpI {H : Hp} {K : PySem.W.Frag} {a : Addr} {xs : List V} (h : H a = some (.tup xs)) : SqT K H a xs := .inl (.inl h)
/-! ### is, of an int and a truth value -/
theorem op_is_ib {X : Cx} : OpR X (compareOp .Is) (fun x y H Q => ∃ i b, x = .int i ∧ y = .bl b ∧ Q (.bl false) H) := by
  intro pins s σ H x y v u Q I rx ry h
  obtain ⟨i, b, rfl, rfl, q⟩ := h
  obtain ⟨t, rfl⟩ : ∃ t, v = Value.int i t := rx
  obtain rfl : u = Value.bool b := ry
  exact wpAny_is_other rfl (fun z => nomatch z) ⟨.bl false, H, I, rfl, q⟩
/-! ### receivers -/
def recvGo (nodes : List Str) (x : Str) : Str → List Str → Bool
  | _, [] => true
  | p, r :: t => decide (r ∈ nodes) && decide (ltS p r) && decide (r ≠ x) && recvGo nodes x r t
theorem recvGo_cons {nodes : List Str} {x p r : Str} {t : List Str} : recvGo nodes x p (r :: t) = (decide (r ∈ nodes) && decide (ltS p r) && decide (r ≠ x) && recvGo nodes x r t) := rfl
def recvB (nodes : List Str) (x : Str) (rs : List Str) : Bool := !rs.isEmpty && recvGo nodes x "" rs
theorem recvGo_mem {nodes : List Str} {x : Str} : ∀ {rs : List Str} {p : Str}, recvGo nodes x p rs = true → ∀ r ∈ rs, r ∈ nodes ∧ r ≠ x ∧ ltS p r
  | [], _, _, r, hr => nomatch hr
  | y :: t, p, h, r, hr => by
    unfold recvGo at h
    simp only [Bool.and_eq_true, decide_eq_true_eq] at h
    obtain ⟨⟨⟨h1, h2⟩, h3⟩, h4⟩ := h
    rcases List.mem_cons.mp hr with rfl | hr
    · exact ⟨h1, h3, h2⟩
    · obtain ⟨k1, k2, k3⟩ := recvGo_mem h4 r hr
      exact ⟨k1, k2, List.lt_trans h2 k3⟩
theorem recvGo_asc {nodes : List Str} {x : Str} : ∀ {rs : List Str} {p : Str}, recvGo nodes x p rs = true → rs.Pairwise ltS
  | [], _, _ => .nil
  | y :: t, p, h => by
    have h' := h
    unfold recvGo at h
    simp only [Bool.and_eq_true, decide_eq_true_eq] at h
    obtain ⟨_, h4⟩ := h
    exact .cons (fun r hr => (recvGo_mem h4 r hr).2.2) (recvGo_asc h4)
theorem recvGo_of {nodes : List Str} {x : Str} : ∀ {rs : List Str} {p : Str}, (∀ r ∈ rs, r ∈ nodes ∧ r ≠ x ∧ ltS p r) → rs.Pairwise ltS → recvGo nodes x p rs = true
  | [], _, _, _ => rfl
  | y :: t, p, h, a => by
    obtain ⟨h1, h2, h3⟩ := h y List.mem_cons_self
    cases a with
    | cons a1 a2 =>
    unfold recvGo
    rw [decide_eq_true h1, decide_eq_true h2, decide_eq_true h3, recvGo_of (fun r hr => ⟨(h r (List.mem_cons_of_mem _ hr)).1, (h r (List.mem_cons_of_mem _ hr)).2.1, a1 r hr⟩) a2]
    rfl
/-- a dict whose keys are the nodes -/
def KeysAre (kvs : List (Key × V)) (nodes : List Str) : Prop := ∀ r : Str, (valV kvs (.inr r)).isSome = decide (r ∈ nodes)
end KA
namespace KA
open PySem PySem.Spec PyProof.Rows L2 L2.Dx
/-! ### the events -/
inductive Ev where
  | snd (x : Str) (rs : List Str)
  | opn (x s : Str) (n : Int)
def EvAt (H : Hp) (a : Addr) : Ev → Prop
  | .snd x rs => ∃ l, H a = some (.tup [.str "send", .str x, .ref l]) ∧ H l = some (.lst (rs.map V.str))
  | .opn x s n => ∃ m, H a = some (.tup [.str "open", .str x, .ref m]) ∧ H m = some (.tup [.str s, .int n])
theorem EvAt.same {H H' : Hp} {a : Addr} {e : Ev} (h : EvAt H a e) (s : Same H H') : EvAt H' a e := by
  cases e with
  | snd x rs => exact h.elim fun l ⟨h1, h2⟩ => ⟨l, s _ _ h1, s _ _ h2⟩
  | opn x t n => exact h.elim fun l ⟨h1, h2⟩ => ⟨l, s _ _ h1, s _ _ h2⟩
structure RunAt (H : Hp) (r : Addr) (as : List Addr) (es : List Ev) : Prop where
  at' : H r = some (.lst (as.map V.ref))
  len : as.length = es.length
  ev : ∀ (i : Nat) (a : Addr) (e : Ev), as[i]? = some a → es[i]? = some e → EvAt H a e
theorem RunAt.same {H H' : Hp} {r : Addr} {as : List Addr} {es : List Ev} (h : RunAt H r as es) (s : Same H H') : RunAt H' r as es := ⟨s _ _ h.at', h.len, fun i a e h1 h2 => (h.ev i a e h1 h2).same s⟩
theorem RunAt.get {H : Hp} {r : Addr} {as : List Addr} {es : List Ev} (h : RunAt H r as es) {i : Nat} {e : Ev} (he : es[i]? = some e) : ∃ a, as[i]? = some a ∧ EvAt H a e := by
  have hi : i < as.length := by rw [h.len]; exact (List.getElem?_eq_some_iff.mp he).1
  exact ⟨as[i], List.getElem?_eq_getElem hi, h.ev i _ e (List.getElem?_eq_getElem hi) he⟩
/-! ### what a run's reading finds -/
structure Rs where
  sends : Str → List Nat
  opens : Str → List (Nat × Nat)
def Rs.nil : Rs := ⟨fun _ => [], fun _ => []⟩
def recvAt (es : List Ev) (i : Nat) : List Str := match es[i]? with
  | some (.snd _ rs) => rs
  | _ => []
/-- the place of the send of a message -/
def sentAt (r : Rs) (nodes : List Str) (s : Str) (n : Int) : Option Nat := if s ∈ nodes ∧ 0 < n then (r.sends s)[(n - 1).toNat]? else none
def evOk (nodes : List Str) (es : List Ev) (r : Rs) : Ev → Prop
  | .snd x rs => x ∈ nodes ∧ recvB nodes x rs = true
  | .opn x s n => ∃ j, sentAt r nodes s n = some j ∧ x ∈ recvAt es j ∧ (r.opens x).all (fun p => decide (p.1 ≠ j)) = true
def Rs.next (r : Rs) (nodes : List Str) (i : Nat) : Ev → Rs
  | .snd x _ => ⟨fun y => if y = x then r.sends x ++ [i] else r.sends y, r.opens⟩
  | .opn x s n => ⟨r.sends, fun y => if y = x then r.opens x ++ [((sentAt r nodes s n).getD 0, i)] else r.opens y⟩
def Rs.upto (nodes : List Str) (es : List Ev) : Nat → Rs
  | 0 => .nil
  | i + 1 => match es[i]? with
    | some e => (Rs.upto nodes es i).next nodes i e
    | none => Rs.upto nodes es i
def OkTo (nodes : List Str) (es : List Ev) (k : Nat) : Prop := ∀ i, i < k → ∀ e, es[i]? = some e → evOk nodes es (Rs.upto nodes es i) e
def RunOk (nodes : List Str) (es : List Ev) : Prop := OkTo nodes es es.length
theorem upto_succ {nodes : List Str} {es : List Ev} {i : Nat} {e : Ev} (h : es[i]? = some e) : Rs.upto nodes es (i + 1) = (Rs.upto nodes es i).next nodes i e := by
  show (match es[i]? with | some e => (Rs.upto nodes es i).next nodes i e | none => Rs.upto nodes es i) = _
  rw [h]
/-! ### dicts over the nodes -/
theorem valV_in {h : Str → V} {x : Str} : ∀ {nodes : List Str}, x ∈ nodes → valV (nodes.map fun y => ((Sum.inr y : Key), h y)) (.inr x) = some (h x)
  | y :: r, hx => by
    rw [List.map_cons]
    by_cases e : y = x
    · subst e
      exact valV_pos rfl
    · rw [valV_neg (by simpa using e)]
      exact valV_in ((List.mem_cons.mp hx).resolve_left fun z => e z.symm)
theorem valV_out {h : Str → V} {x : Str} : ∀ {nodes : List Str}, x ∉ nodes → valV (nodes.map fun y => ((Sum.inr y : Key), h y)) (.inr x) = none
  | [], _ => rfl
  | y :: r, hx => by
    rw [List.map_cons, valV_neg (by simpa using fun z : y = x => hx (z ▸ List.mem_cons_self))]
    exact valV_out fun z => hx (List.mem_cons_of_mem _ z)
theorem keys_map {h : Str → V} {nodes : List Str} : KeysAre (nodes.map fun y => ((Sum.inr y : Key), h y)) nodes := fun r => by
  by_cases e : r ∈ nodes
  · rw [valV_in e, decide_eq_true e]
    rfl
  · rw [valV_out e, decide_eq_false e]
    rfl
abbrev ixs (l : List Nat) : List V := l.map fun i => V.int (i : Nat)
abbrev ops (l : List (Nat × Nat)) : List (Key × V) := l.map fun p => (Sum.inl ((p.1 : Nat) : Int), V.int (p.2 : Nat))
/-- the dict of the sends: its lists at f -/
structure SendsAt (H : Hp) (d : Addr) (nodes : List Str) (f : Str → Addr) (S : Str → List Nat) : Prop where
  at' : H d = some (.dK (nodes.map fun x => (Sum.inr x, V.ref (f x))))
  own : ∀ x ∈ nodes, H (f x) = some (.lst (ixs (S x)))
structure OpensAt (H : Hp) (d : Addr) (nodes : List Str) (g : Str → Addr) (O : Str → List (Nat × Nat)) : Prop where
  at' : H d = some (.dK (nodes.map fun x => (Sum.inr x, V.ref (g x))))
  own : ∀ x ∈ nodes, H (g x) = some (.dK (ops (O x)))
theorem SendsAt.same {H H' : Hp} {d : Addr} {nodes : List Str} {f : Str → Addr} {S : Str → List Nat} (h : SendsAt H d nodes f S) (s : Same H H') : SendsAt H' d nodes f S := ⟨s _ _ h.at', fun x hx => s _ _ (h.own x hx)⟩
theorem OpensAt.same {H H' : Hp} {d : Addr} {nodes : List Str} {f : Str → Addr} {S : Str → List (Nat × Nat)} (h : OpensAt H d nodes f S) (s : Same H H') : OpensAt H' d nodes f S := ⟨s _ _ h.at', fun x hx => s _ _ (h.own x hx)⟩
theorem valV_ops {j : Nat} : ∀ {l : List (Nat × Nat)}, (valV (ops l) (.inl ((j : Nat) : Int))).isSome = !l.all (fun p => decide (p.1 ≠ j))
  | [] => rfl
  | p :: r => by
    show (valV ((Sum.inl ((p.1 : Nat) : Int), V.int (p.2 : Nat)) :: ops r) _).isSome = _
    by_cases e : p.1 = j
    · subst e
      rw [valV_pos rfl]
      simp
    · rw [valV_neg (fun z => e (Int.ofNat.inj (Sum.inl.inj z))), valV_ops (j := j) (l := r)]
      simp [e]
end KA

set_option Elab.async false
set_option linter.all false
set_option maxRecDepth 100000
set_option maxHeartbeats 4000000
namespace KA
open PySem PySem.Spec PyProof.Rows L2 L2.Dx
def topS (i : Nat) : Stmt := PySem.Challenge.pw_waitlists_k06_whole_large_runs.main.body.getD i (.Pass ⟨0, 0, 0, 0⟩)
abbrev s_is_nodes : Stmt := topS 7
theorem sc_is_nodes : FnScope ["value", "previous", "entry", "letters"] ["value"] (defScope s_is_nodes) := ⟨rfl, rfl, rfl, by decide +kernel, rfl, by decide +kernel, by decide +kernel⟩
abbrev s_is_run : Stmt := topS 8
theorem sc_is_run : FnScope ["nodes", "value"] ["nodes", "value"] (defScope s_is_run) := ⟨rfl, rfl, rfl, by decide +kernel, rfl, by decide +kernel, by decide +kernel⟩
abbrev s_messages_of : Stmt := topS 9
theorem sc_messages_of : FnScope ["nodes", "run", "sends", "_", "node", "number", "index"] ["nodes", "run"] (defScope s_messages_of) := ⟨rfl, rfl, rfl, by decide +kernel, rfl, by decide +kernel, by decide +kernel⟩
abbrev s_send_index : Stmt := topS 10
theorem sc_send_index : FnScope ["nodes", "run", "message", "sends", "_"] ["nodes", "run", "message"] (defScope s_send_index) := ⟨rfl, rfl, rfl, by decide +kernel, rfl, by decide +kernel, by decide +kernel⟩
abbrev s_open_index : Stmt := topS 11
theorem sc_open_index : FnScope ["nodes", "run", "message", "node", "sends", "opens", "sent"] ["nodes", "run", "message", "node"] (defScope s_open_index) := ⟨rfl, rfl, rfl, by decide +kernel, rfl, by decide +kernel, by decide +kernel⟩
abbrev s_is_node : Stmt := topS 12
theorem sc_is_node : FnScope ["nodes", "value"] ["nodes", "value"] (defScope s_is_node) := ⟨rfl, rfl, rfl, by decide +kernel, rfl, by decide +kernel, by decide +kernel⟩
abbrev s_is_receivers : Stmt := topS 13
theorem sc_is_receivers : FnScope ["nodes", "node", "value", "previous", "entry"] ["nodes", "node", "value"] (defScope s_is_receivers) := ⟨rfl, rfl, rfl, by decide +kernel, rfl, by decide +kernel, by decide +kernel⟩
abbrev s_find_send : Stmt := topS 14
theorem sc_find_send : FnScope ["sends", "value", "sender", "number", "own"] ["sends", "value"] (defScope s_find_send) := ⟨rfl, rfl, rfl, by decide +kernel, rfl, by decide +kernel, by decide +kernel⟩
abbrev s_scan_run : Stmt := topS 15
theorem sc_scan_run : FnScope ["nodes", "value", "sends", "opens", "index", "event", "kind", "node", "detail", "own", "sender", "number", "sent"] ["nodes", "value"] (defScope s_scan_run) := ⟨rfl, rfl, rfl, by decide +kernel, rfl, by decide +kernel, by decide +kernel⟩
abbrev s_check_nodes : Stmt := topS 16
theorem sc_check_nodes : FnScope ["nodes"] ["nodes"] (defScope s_check_nodes) := ⟨rfl, rfl, rfl, by decide +kernel, rfl, by decide +kernel, by decide +kernel⟩
abbrev s_check_run : Stmt := topS 17
theorem sc_check_run : FnScope ["nodes", "run", "events"] ["nodes", "run"] (defScope s_check_run) := ⟨rfl, rfl, rfl, by decide +kernel, rfl, by decide +kernel, by decide +kernel⟩
abbrev s_check_node : Stmt := topS 18
theorem sc_check_node : FnScope ["nodes", "node"] ["nodes", "node"] (defScope s_check_node) := ⟨rfl, rfl, rfl, by decide +kernel, rfl, by decide +kernel, by decide +kernel⟩
abbrev s_check_message : Stmt := topS 19
theorem sc_check_message : FnScope ["sends", "message", "sent"] ["sends", "message"] (defScope s_check_message) := ⟨rfl, rfl, rfl, by decide +kernel, rfl, by decide +kernel, by decide +kernel⟩
abbrev s__law_seed : Stmt := topS 21
theorem sc__law_seed : FnScope ["script", "k", "cell"] ["script", "k"] (defScope s__law_seed) := ⟨rfl, rfl, rfl, by decide +kernel, rfl, by decide +kernel, by decide +kernel⟩
abbrev s__law_next : Stmt := topS 22
theorem sc__law_next : FnScope ["seed", "size", "found", "state"] ["seed", "size"] (defScope s__law_next) := ⟨rfl, rfl, rfl, by decide +kernel, rfl, by decide +kernel, by decide +kernel⟩
abbrev s__law_large : Stmt := topS 24
theorem sc__law_large : FnScope ["seed", "nodes", "many", "found", "counts", "waiting", "node", "others", "receivers", "one"] ["seed", "nodes", "many"] (defScope s__law_large) := ⟨rfl, rfl, rfl, by decide +kernel, rfl, by decide +kernel, by decide +kernel⟩
abbrev s_law : Stmt := topS 25
theorem sc_law : FnScope ["script", "k", "seed", "nodes", "run", "told", "sends", "many", "counts", "index", "event", "letter", "message"] ["script"] (defScope s_law) := ⟨rfl, rfl, rfl, by decide +kernel, rfl, by decide +kernel, by decide +kernel⟩
/-- where the text's defs stand behind the top -/
structure Txt (K : PySem.W.Frag) (mg : Str → Option Value) where
  f_is_nodes : Addr
  fd_is_nodes : FuncData
  F_is_nodes : Fun K "is_nodes" "is_nodes" s_is_nodes f_is_nodes fd_is_nodes
  M_is_nodes : mg "is_nodes" = some (.ref f_is_nodes)
  f_is_run : Addr
  fd_is_run : FuncData
  F_is_run : Fun K "is_run" "is_run" s_is_run f_is_run fd_is_run
  M_is_run : mg "is_run" = some (.ref f_is_run)
  f_messages_of : Addr
  fd_messages_of : FuncData
  F_messages_of : Fun K "messages_of" "messages_of" s_messages_of f_messages_of fd_messages_of
  M_messages_of : mg "messages_of" = some (.ref f_messages_of)
  f_send_index : Addr
  fd_send_index : FuncData
  F_send_index : Fun K "send_index" "send_index" s_send_index f_send_index fd_send_index
  M_send_index : mg "send_index" = some (.ref f_send_index)
  f_open_index : Addr
  fd_open_index : FuncData
  F_open_index : Fun K "open_index" "open_index" s_open_index f_open_index fd_open_index
  M_open_index : mg "open_index" = some (.ref f_open_index)
  f_is_node : Addr
  fd_is_node : FuncData
  F_is_node : Fun K "is_node" "is_node" s_is_node f_is_node fd_is_node
  M_is_node : mg "is_node" = some (.ref f_is_node)
  f_is_receivers : Addr
  fd_is_receivers : FuncData
  F_is_receivers : Fun K "is_receivers" "is_receivers" s_is_receivers f_is_receivers fd_is_receivers
  M_is_receivers : mg "is_receivers" = some (.ref f_is_receivers)
  f_find_send : Addr
  fd_find_send : FuncData
  F_find_send : Fun K "find_send" "find_send" s_find_send f_find_send fd_find_send
  M_find_send : mg "find_send" = some (.ref f_find_send)
  f_scan_run : Addr
  fd_scan_run : FuncData
  F_scan_run : Fun K "scan_run" "scan_run" s_scan_run f_scan_run fd_scan_run
  M_scan_run : mg "scan_run" = some (.ref f_scan_run)
  f_check_nodes : Addr
  fd_check_nodes : FuncData
  F_check_nodes : Fun K "check_nodes" "check_nodes" s_check_nodes f_check_nodes fd_check_nodes
  M_check_nodes : mg "check_nodes" = some (.ref f_check_nodes)
  f_check_run : Addr
  fd_check_run : FuncData
  F_check_run : Fun K "check_run" "check_run" s_check_run f_check_run fd_check_run
  M_check_run : mg "check_run" = some (.ref f_check_run)
  f_check_node : Addr
  fd_check_node : FuncData
  F_check_node : Fun K "check_node" "check_node" s_check_node f_check_node fd_check_node
  M_check_node : mg "check_node" = some (.ref f_check_node)
  f_check_message : Addr
  fd_check_message : FuncData
  F_check_message : Fun K "check_message" "check_message" s_check_message f_check_message fd_check_message
  M_check_message : mg "check_message" = some (.ref f_check_message)
  f__law_seed : Addr
  fd__law_seed : FuncData
  F__law_seed : Fun K "_law_seed" "_law_seed" s__law_seed f__law_seed fd__law_seed
  M__law_seed : mg "_law_seed" = some (.ref f__law_seed)
  f__law_next : Addr
  fd__law_next : FuncData
  F__law_next : Fun K "_law_next" "_law_next" s__law_next f__law_next fd__law_next
  M__law_next : mg "_law_next" = some (.ref f__law_next)
  f__law_large : Addr
  fd__law_large : FuncData
  F__law_large : Fun K "_law_large" "_law_large" s__law_large f__law_large fd__law_large
  M__law_large : mg "_law_large" = some (.ref f__law_large)
  f_law : Addr
  fd_law : FuncData
  F_law : Fun K "law" "law" s_law f_law fd_law
  M_law : mg "law" = some (.ref f_law)
  m_isinstance : mg "isinstance" = none
  m_list : mg "list" = none
  m_str : mg "str" = none
  m_len : mg "len" = none
  m_tuple : mg "tuple" = none
  m_int : mg "int" = none
  m_bool : mg "bool" = none
  m_dict : mg "dict" = none
  m_sum : mg "sum" = none
  m_max : mg "max" = none
  m_min : mg "min" = none
  m_range : mg "range" = none
  m_enumerate : mg "enumerate" = none
  m_sorted : mg "sorted" = none
  m_zip : mg "zip" = none
  m_reversed : mg "reversed" = none
  m_abs : mg "abs" = none
  m_repr : mg "repr" = none
  m_set : mg "set" = none
  m_any : mg "any" = none
  m_all : mg "all" = none
section
variable {K : PySem.W.Frag} {mg : Str → Option Value}
theorem b_is_nodes (T : Txt K mg) : Binds K T.fd_is_nodes ["value"] [] := T.F_is_nodes.binds fun _ _ _ _ _ _ us hl => match us, hl with | [_], _ => rfl
theorem b_is_run (T : Txt K mg) : Binds K T.fd_is_run ["nodes", "value"] [] := T.F_is_run.binds fun _ _ _ _ _ _ us hl => match us, hl with | [_, _], _ => rfl
theorem b_messages_of (T : Txt K mg) : Binds K T.fd_messages_of ["nodes", "run"] [] := T.F_messages_of.binds fun _ _ _ _ _ _ us hl => match us, hl with | [_, _], _ => rfl
theorem b_send_index (T : Txt K mg) : Binds K T.fd_send_index ["nodes", "run", "message"] [] := T.F_send_index.binds fun _ _ _ _ _ _ us hl => match us, hl with | [_, _, _], _ => rfl
theorem b_open_index (T : Txt K mg) : Binds K T.fd_open_index ["nodes", "run", "message", "node"] [] := T.F_open_index.binds fun _ _ _ _ _ _ us hl => match us, hl with | [_, _, _, _], _ => rfl
theorem b_is_node (T : Txt K mg) : Binds K T.fd_is_node ["nodes", "value"] [] := T.F_is_node.binds fun _ _ _ _ _ _ us hl => match us, hl with | [_, _], _ => rfl
theorem b_is_receivers (T : Txt K mg) : Binds K T.fd_is_receivers ["nodes", "node", "value"] [] := T.F_is_receivers.binds fun _ _ _ _ _ _ us hl => match us, hl with | [_, _, _], _ => rfl
theorem b_find_send (T : Txt K mg) : Binds K T.fd_find_send ["sends", "value"] [] := T.F_find_send.binds fun _ _ _ _ _ _ us hl => match us, hl with | [_, _], _ => rfl
theorem b_scan_run (T : Txt K mg) : Binds K T.fd_scan_run ["nodes", "value"] [] := T.F_scan_run.binds fun _ _ _ _ _ _ us hl => match us, hl with | [_, _], _ => rfl
theorem b_check_nodes (T : Txt K mg) : Binds K T.fd_check_nodes ["nodes"] [] := T.F_check_nodes.binds fun _ _ _ _ _ _ us hl => match us, hl with | [_], _ => rfl
theorem b_check_run (T : Txt K mg) : Binds K T.fd_check_run ["nodes", "run"] [] := T.F_check_run.binds fun _ _ _ _ _ _ us hl => match us, hl with | [_, _], _ => rfl
theorem b_check_node (T : Txt K mg) : Binds K T.fd_check_node ["nodes", "node"] [] := T.F_check_node.binds fun _ _ _ _ _ _ us hl => match us, hl with | [_, _], _ => rfl
theorem b_check_message (T : Txt K mg) : Binds K T.fd_check_message ["sends", "message"] [] := T.F_check_message.binds fun _ _ _ _ _ _ us hl => match us, hl with | [_, _], _ => rfl
theorem b__law_seed (T : Txt K mg) : Binds K T.fd__law_seed ["script", "k"] [] := T.F__law_seed.binds fun _ _ _ _ _ _ us hl => match us, hl with | [_, _], _ => rfl
theorem b__law_next (T : Txt K mg) : Binds K T.fd__law_next ["seed", "size"] [] := T.F__law_next.binds fun _ _ _ _ _ _ us hl => match us, hl with | [_, _], _ => rfl
theorem b__law_large (T : Txt K mg) : Binds K T.fd__law_large ["seed", "nodes", "many"] [] := T.F__law_large.binds fun _ _ _ _ _ _ us hl => match us, hl with | [_, _, _], _ => rfl
theorem b_law (T : Txt K mg) : Binds K T.fd_law ["script"] [] := T.F_law.binds fun _ _ _ _ _ _ us hl => match us, hl with | [_], _ => rfl
end

end KA

set_option Elab.async false
set_option linter.all false
set_option maxRecDepth 100000
set_option maxHeartbeats 4000000
namespace KA
open PySem PySem.Spec PyProof.Rows L2 L2.Dx
section
variable {P : Program} {w : World} {K : PySem.W.Frag} {mg : Str → Option Value} {base : Heap}
def sp_is_nodes (K : PySem.W.Frag) : Sp := fun vs H Q _ => ∃ (a : Addr) (ns : List Str), vs = [.ref a] ∧ H a = some (.lst (ns.map V.str)) ∧ NodesOk ns ∧ Q (.bl true) H
theorem ok_is_nodes (T : Txt K mg) :
    FnOk P w K mg base CX0 1 T.f_is_nodes T.fd_is_nodes ["value"] (sp_is_nodes K) := by
  refine T.F_is_nodes.ok sc_is_nodes (fun vs H Q E h => ?_) (fun cdv A outer s H vs Q E hr h => ?_)
  · obtain ⟨a, ns, rfl, _⟩ := h
    rfl
  · obtain ⟨a, ns, rfl, ha, hn, q⟩ := h
    refine ⟨_, (pss_cons (ps_if (PW.pt (pw_or (pt_not (pt_val (pe_callB call_isi (by rfl) T.m_isinstance (by decide +kernel) (pa_cons (pv 0) (pa_cons (pe_bltn (v := .ty "list") (by rfl) T.m_list (by decide +kernel) rfl) pa_nil))))) (pw_or1 (pt_not (pt_chain op_le op_le pe_int (pe_callB call_len_seq (by rfl) T.m_len PySem.boot_len (pa_cons (pv 0) pa_nil)) pe_int)))))
      (pss_one (ps_ret pe_bl))
      pss_nil)
    (pss_cons (ps_set (i := 1) sc_is_nodes.nd rfl (by first | exact .inl rfl | exact .inr rfl) pe_str)
    (pss_cons (ps_for PassesOwn.never rfl (pi_list (pv 0)) (pg_name (i := 2) sc_is_nodes.nd rfl (by first | exact .inl rfl | exact .inr rfl))
      (pss_cons (ps_if (PW.pt (pw_or (pt_not (pt_val (pe_callB call_isi (by rfl) T.m_isinstance (by decide +kernel) (pa_cons (pv 2) (pa_cons (pe_bltn (v := .ty "str") (by rfl) T.m_str (by decide +kernel) rfl) pa_nil))))) (pw_or (pt_cmpR op_le_str (pv 2) (pv 1) (nomark _)) (pw_or1 (pt_cmpR op_gt (pe_callB call_len_str (by rfl) T.m_len PySem.boot_len (pa_cons (pv 2) pa_nil)) pe_int (nomark _))))))
        (pss_one (ps_ret pe_bl))
        pss_nil)
      (pss_one (ps_set (i := 1) sc_is_nodes.nd rfl (by first | exact .inl rfl | exact .inr rfl) (pv 2)))))
    (pss_cons (ps_set (i := 3) sc_is_nodes.nd rfl (by first | exact .inl rfl | exact .inr rfl) (pe_join pe_str (pv 0)))
    (pss_one (ps_ret (pe_and (pe_m0 PySem.F.slot_str_isascii PySem.F.type_str_isascii mt_isascii (pv 3)) (pe_and (pe_m0 PySem.F.slot_str_isalpha PySem.F.type_str_isalpha mt_isalpha (pv 3)) (pe_one (pe_m0 PySem.F.slot_str_islower PySem.F.type_str_islower mt_islower (pv 3))))))))))), ?_⟩
    have l1 := hn.lo
    have l2 := hn.hi
    refine ⟨.ref a, rfl, _, _, _, _, true, rfl, .ty "list", .base (.lst ha), kit_ty (by decide +kernel), true, rfl, iteF ?_⟩
    refine ⟨_, rfl, a, ns.map V.str, rfl, .inl (ltI ha), 2, _, rfl, rfl, true, ?_, iteT ⟨_, _, rfl, rfl, true, ?_, iteF ?_⟩⟩
    · show V.bl (decide ((2 : Int) ≤ ((ns.map V.str).length : Nat))) = .bl true
      rw [List.length_map, decide_eq_true (by omega)]
    · show V.bl (decide ((((ns.map V.str).length : Nat) : Int) ≤ 12)) = .bl true
      rw [List.length_map, decide_eq_true (by omega)]
    -- the loop
    refine ⟨.ref a, rfl, a, rfl, ⟨_, ltI ha⟩, for_list (xs := ns.map V.str) (fun i σ H' => H' = H ∧ ∃ z y, σ = [some (.ref a), some (.str z), y, none] ∧ ∀ x, ns[i]? = some x → ltS z x) ?_ ?_ ?_ ?_⟩
    · refine ⟨rfl, "", none, rfl, fun x hx => empty_lt (hn.nm x (List.mem_of_getElem? hx))⟩
    · rintro i σ H' _ ⟨rfl, _⟩
      exact ltI ha
    · rintro i x σ H' hx ⟨rfl, z, y, rfl, hz⟩
      rw [List.getElem?_map] at hx
      obtain ⟨n, hx1, rfl⟩ := Option.map_eq_some_iff.mp hx
      have on := hn.nm n (List.mem_of_getElem? hx1)
      have o8 := on.hi
      refine ⟨.str n, rfl, _, _, _, _, true, rfl, .ty "str", .base (.str n), kit_ty (by decide +kernel), true, rfl, iteF ?_⟩
      refine ⟨.str n, rfl, .str z, rfl, n, z, rfl, rfl, false, ?_, iteF ?_⟩
      · rw [decide_eq_true (hz n hx1)]
        rfl
      refine ⟨.str n, rfl, n, rfl, Nat.le_trans o8 (by decide), _, 8, rfl, rfl, false, ?_, iteF ?_⟩
      · show V.bl (decide ((8 : Int) < (n.length : Nat))) = .bl false
        rw [decide_eq_false (by omega)]
      refine ⟨.str n, rfl, rfl, n, _, rfl, fun x hx2 => ?_⟩
      have p := hn.asc
      rw [List.pairwise_iff_getElem] at p
      obtain ⟨h1, e1⟩ := List.getElem?_eq_some_iff.mp hx1
      obtain ⟨h2, e2⟩ := List.getElem?_eq_some_iff.mp hx2
      have := p i (i + 1) h1 h2 (Nat.lt_succ_self i)
      rwa [e1, e2] at this
    · rintro σ H' ⟨rfl, z, y, rfl, _⟩
      obtain ⟨t1, t2, t3⟩ := nodes_text hn
      have hl : (ns.map (·.length)).sum ≤ 96 := Nat.le_trans (sum_len ns fun z hz => (hn.nm z hz).hi) (by omega)
      refine ⟨⟨_, rfl⟩, .ref a, rfl, "", a, ns, rfl, rfl, .inl (ltI ha), ?_, ?_⟩
      · show (ns.map (·.length)).sum + ns.length * 0 ≤ 16777216
        omega
      refine ⟨_, rfl, ⟨_, rfl⟩, _, rfl, rfl, trivial, true, ?_, iteT ⟨_, rfl, ⟨_, rfl⟩, _, rfl, rfl, trivial, true, ?_, iteT ⟨_, rfl, ⟨_, rfl⟩, _, rfl, rfl, trivial, ?_⟩⟩⟩
      · rw [t1]
      · rw [t2]
      · rw [t3]
        exact q

def sp_is_node (K : PySem.W.Frag) : Sp := fun vs H Q _ => ∃ (a : Addr) (ns : List Str) (x : Str), vs = [.ref a, .str x] ∧ H a = some (.lst (ns.map V.str)) ∧ Q (.bl (decide (x ∈ ns))) H
theorem inV_str {x : Str} : ∀ {ns : List Str}, inV (.str x) (ns.map V.str) = decide (x ∈ ns)
  | [] => rfl
  | y :: r => by
    have ih := @inV_str x r
    unfold inV at ih ⊢
    rw [List.map_cons, List.any_cons, ih]
    by_cases e : y = x
    · subst e
      simp [eqV]
    · have e2 : eqV (.str y) (.str x) = false := by
        show decide (y = x) = false
        exact decide_eq_false e
      rw [e2]
      simp [Ne.symm e]
theorem flat_str : ∀ (ns : List Str), (ns.map V.str).all flatV = true
  | [] => rfl
  | y :: r => by
    rw [List.map_cons, List.all_cons, flat_str r]
    rfl
theorem ok_is_node (T : Txt K mg) :
    FnOk P w K mg base CX0 1 T.f_is_node T.fd_is_node ["nodes", "value"] (sp_is_node K) := by
  refine T.F_is_node.ok sc_is_node (fun vs H Q E h => ?_) (fun cdv A outer s H vs Q E hr h => ?_)
  · obtain ⟨a, ns, x, rfl, _⟩ := h
    rfl
  · obtain ⟨a, ns, x, rfl, ha, q⟩ := h
    refine ⟨_, (pss_one (ps_ret (pe_and (pe_callB call_isi (by rfl) T.m_isinstance (by decide +kernel) (pa_cons (pv 1) (pa_cons (pe_bltn (v := .ty "str") (by rfl) T.m_str (by decide +kernel) rfl) pa_nil))) (pe_one (pe_cmpR op_in_seq (pv 1) (pv 0) rfl))))), ?_⟩
    refine ⟨.str x, rfl, _, _, _, _, true, rfl, .ty "str", .base (.str x), kit_ty (by decide +kernel), true, rfl, iteT ?_⟩
    refine ⟨.str x, rfl, .ref a, rfl, a, ns.map V.str, rfl, .inl (ltI ha), rfl, flat_str ns, ?_⟩
    rw [inV_str]
    exact q
def sp_is_receivers (K : PySem.W.Frag) : Sp := fun vs H Q _ => ∃ (d l : Addr) (kvs : List (Key × V)) (ns rs : List Str) (x : Str), vs = [.ref d, .str x, .ref l] ∧ H d = some (.dK kvs) ∧ KeysAre kvs ns ∧ H l = some (.lst (rs.map V.str)) ∧ Q (.bl (recvB ns x rs)) H
theorem ok_is_receivers (T : Txt K mg) :
    FnOk P w K mg base CX0 1 T.f_is_receivers T.fd_is_receivers ["nodes", "node", "value"] (sp_is_receivers K) := by
  refine T.F_is_receivers.ok sc_is_receivers (fun vs H Q E h => ?_) (fun cdv A outer s H vs Q E hr h => ?_)
  · obtain ⟨d, l, kvs, ns, rs, x, rfl, _⟩ := h
    rfl
  · obtain ⟨d, l, kvs, ns, rs, x, rfl, hd, hk, hl, q⟩ := h
    refine ⟨_, (pss_cons (ps_if (PW.pt (pw_or (pt_not (pt_val (pe_callB call_isi (by rfl) T.m_isinstance (by decide +kernel) (pa_cons (pv 2) (pa_cons (pe_bltn (v := .ty "list") (by rfl) T.m_list (by decide +kernel) rfl) pa_nil))))) (pw_or1 (pt_not (pt_truth (pv 2) (fun _ => rfl))))))
      (pss_one (ps_ret pe_bl))
      pss_nil)
    (pss_cons (ps_set (i := 3) sc_is_receivers.nd rfl (by first | exact .inl rfl | exact .inr rfl) pe_str)
    (pss_cons (ps_for PassesOwn.never rfl (pi_list (pv 2)) (pg_name (i := 4) sc_is_receivers.nd rfl (by first | exact .inl rfl | exact .inr rfl))
      (pss_cons (ps_if (PW.pt (pw_or (pt_not (pt_val (pe_callB call_isi (by rfl) T.m_isinstance (by decide +kernel) (pa_cons (pv 4) (pa_cons (pe_bltn (v := .ty "str") (by rfl) T.m_str (by decide +kernel) rfl) pa_nil))))) (pw_or (pt_cmp (pc_dnotin (hu_of hr) (pv 4) (pv 0))) (pw_or (pt_cmpR op_le_str (pv 4) (pv 3) (nomark _)) (pw_or1 (pt_cmpR op_eq (pv 4) (pv 1) (nomark _)))))))
        (pss_one (ps_ret pe_bl))
        pss_nil)
      (pss_one (ps_set (i := 3) sc_is_receivers.nd rfl (by first | exact .inl rfl | exact .inr rfl) (pv 4)))))
    (pss_one (ps_ret pe_bl))))), ?_⟩
    refine ⟨.ref l, rfl, _, _, _, _, true, rfl, .ty "list", .base (.lst hl), kit_ty (by decide +kernel), true, rfl, iteF ?_⟩
    refine ⟨.ref l, rfl, !(rs.map V.str).isEmpty, .inl ⟨_, ltI hl, rfl⟩, ?_⟩
    cases hrs : rs with
    | nil =>
      rw [hrs] at q
      exact iteT q
    | cons r0 rt =>
    rw [← hrs]
    have hne : (rs.map V.str).isEmpty = false := by rw [hrs]; rfl
    rw [hne]
    refine iteF ?_
    have hb : recvB ns x rs = recvGo ns x "" rs := by
      unfold recvB
      rw [show rs.isEmpty = false by rw [hrs]; rfl]
      rfl
    rw [hb] at q
    refine ⟨.ref l, rfl, l, rfl, ⟨_, ltI hl⟩, for_list (xs := rs.map V.str) (fun i σ H' => H' = H ∧ ∃ z y, σ = [some (.ref d), some (.str x), some (.ref l), some (.str z), y] ∧ recvGo ns x "" rs = recvGo ns x z (rs.drop i)) ?_ ?_ ?_ ?_⟩
    · exact ⟨rfl, "", none, rfl, rfl⟩
    · rintro i σ H' _ ⟨rfl, _⟩
      exact ltI hl
    · rintro i v σ H' hx ⟨rfl, z, y, rfl, hz⟩
      rw [List.getElem?_map] at hx
      obtain ⟨n, hx1, rfl⟩ := Option.map_eq_some_iff.mp hx
      have hdrop : rs.drop i = n :: rs.drop (i + 1) := by
        obtain ⟨h1, e1⟩ := List.getElem?_eq_some_iff.mp hx1
        rw [← e1]
        exact List.drop_eq_getElem_cons h1
      rw [hdrop, recvGo_cons] at hz
      refine ⟨.str n, rfl, _, _, _, _, true, rfl, .ty "str", .base (.str n), kit_ty (by decide +kernel), true, rfl, iteF ?_⟩
      refine ⟨.str n, rfl, .ref d, rfl, d, _, rfl, DGet.k (k := Sum.inr n) hd, _, rfl, ?_⟩
      rw [hk n]
      by_cases c1 : n ∈ ns
      · rw [decide_eq_true c1] at hz ⊢
        refine iteF ?_
        refine ⟨.str n, rfl, .str z, rfl, n, z, rfl, rfl, _, rfl, ?_⟩
        by_cases c2 : z.cps.toList < n.cps.toList
        · rw [decide_eq_true c2] at hz ⊢
          refine iteF ⟨.str n, rfl, .str x, rfl, rfl, decide (n = x), ?_, ?_⟩
          · simp
          by_cases c3 : n = x
          · rw [decide_eq_true c3]
            rw [decide_eq_false (not_not_intro c3)] at hz
            refine iteT ?_
            rw [hz] at q
            exact q
          · rw [decide_eq_false c3]
            rw [decide_eq_true c3] at hz
            refine iteF ⟨.str n, rfl, rfl, n, _, rfl, ?_⟩
            simpa using hz
        · rw [decide_eq_false c2] at hz ⊢
          refine iteT ?_
          have hz' : recvGo ns x "" rs = false := by simpa using hz
          rw [hz'] at q
          exact q
      · rw [decide_eq_false c1] at hz ⊢
        refine iteT ?_
        have hz' : recvGo ns x "" rs = false := by simpa using hz
        rw [hz'] at q
        exact q
    · rintro σ H' ⟨rfl, z, y, rfl, hz⟩
      rw [List.length_map, List.drop_length] at hz
      rw [hz] at q
      exact q
end
end KA

set_option Elab.async false
set_option linter.all false
set_option maxRecDepth 100000
set_option maxHeartbeats 4000000
namespace KA
open PySem PySem.Spec PyProof.Rows L2 L2.Dx
section
variable {P : Program} {w : World} {K : PySem.W.Frag} {mg : Str → Option Value} {base : Heap}
def sp_find_send : Sp := fun vs H Q _ => ∃ (d m : Addr) (nodes : List Str) (fa : Str → Addr) (r : Rs) (s : Str) (n : Int), vs = [.ref d, .ref m] ∧ SendsAt H d nodes fa r.sends ∧ H m = some (.tup [.str s, .int n]) ∧
  Q (match sentAt r nodes s n with | some j => .int (j : Nat) | none => .non) H
theorem ok_find_send (T : Txt K mg) :
    FnOk P w K mg base CX0 1 T.f_find_send T.fd_find_send ["sends", "value"] sp_find_send := by
  refine T.F_find_send.ok sc_find_send (fun vs H Q E h => ?_) (fun cdv A outer s H vs Q E hr h => ?_)
  · obtain ⟨d, m, nodes, fa, r, s, n, rfl, _⟩ := h
    rfl
  · obtain ⟨d, m, nodes, fa, r, sd, n, rfl, hS, hm, q⟩ := h
    refine ⟨_, (pss_cons (ps_if (PW.pt (pw_or (pt_not (pt_val (pe_callB call_isi (by rfl) T.m_isinstance (by decide +kernel) (pa_cons (pv 1) (pa_cons (pe_bltn (v := .ty "tuple") (by rfl) T.m_tuple (by decide +kernel) rfl) pa_nil))))) (pw_or1 (pt_cmpR op_ne (pe_callB call_len_seq (by rfl) T.m_len PySem.boot_len (pa_cons (pv 1) pa_nil)) pe_int (nomark _)))))
      (pss_one (ps_ret pe_non))
      pss_nil)
    (pss_cons (ps_asg (pv 1) (pg_tup rfl (pgs_cons (pg_name (i := 2) sc_find_send.nd rfl (by first | exact .inl rfl | exact .inr rfl)) (pgs_cons (pg_name (i := 3) sc_find_send.nd rfl (by first | exact .inl rfl | exact .inr rfl)) pgs_nil))))
    (pss_cons (ps_if (PW.pt (pw_or (pt_not (pt_val (pe_callB call_isi (by rfl) T.m_isinstance (by decide +kernel) (pa_cons (pv 2) (pa_cons (pe_bltn (v := .ty "str") (by rfl) T.m_str (by decide +kernel) rfl) pa_nil))))) (pw_or (pt_cmp (pc_dnotin (hu_of hr) (pv 2) (pv 0))) (pw_or (pt_not (pt_val (pe_callB call_isi (by rfl) T.m_isinstance (by decide +kernel) (pa_cons (pv 3) (pa_cons (pe_bltn (v := .ty "int") (by rfl) T.m_int (by decide +kernel) rfl) pa_nil))))) (pw_or1 (pt_cmpR op_is_ib (pv 3) pe_bl (nomark _)))))))
      (pss_one (ps_ret pe_non))
      pss_nil)
    (pss_cons (ps_set (i := 4) sc_find_send.nd rfl (by first | exact .inl rfl | exact .inr rfl) (pe_dget (hu_of hr) (pv 0) (pv 2) (fun _ _ => rfl)))
    (pss_one (ps_ret (pe_ifExp (pt_chain op_lt op_le pe_int (pv 3) (pe_callB call_len_seq (by rfl) T.m_len PySem.boot_len (pa_cons (pv 4) pa_nil))) (pe_ix ix_list (pv 4) (pe_op op_sub (pv 3) pe_int) (fun _ _ => rfl)) pe_non))))))), ?_⟩
    refine ⟨.ref m, rfl, _, _, _, _, true, rfl, .ty "tuple", .base (.tup hm), kit_ty (by decide +kernel), true, rfl, iteF ?_⟩
    refine ⟨.ref m, rfl, m, _, rfl, .inr (tpI hm), rfl, false, rfl, iteF ?_⟩
    refine ⟨.ref m, rfl, m, _, rfl, tpI hm, rfl, .str sd, _, rfl, .int n, _, rfl, rfl, ?_⟩
    refine ⟨.str sd, rfl, _, _, _, _, true, rfl, .ty "str", .base (.str sd), kit_ty (by decide +kernel), true, rfl, iteF ?_⟩
    refine ⟨.str sd, rfl, .ref d, rfl, d, _, rfl, DGet.k (k := Sum.inr sd) hS.at', _, rfl, ?_⟩
    unfold sentAt at q
    by_cases c1 : sd ∈ nodes
    · rw [valV_in c1]
      refine iteF ⟨.int n, rfl, _, _, _, _, true, rfl, .ty "int", .base (.int n), kit_ty (by decide +kernel), true, rfl, iteF ?_⟩
      refine ⟨.int n, rfl, n, true, rfl, rfl, false, rfl, iteF ?_⟩
      refine ⟨.ref d, rfl, .str sd, rfl, d, .ref (fa sd), rfl, by rw [← valV_in (h := fun x => V.ref (fa x)) c1]; exact DGet.k (k := Sum.inr sd) hS.at', ?_⟩
      have ho := hS.own sd c1
      refine ⟨.int n, rfl, 0, n, rfl, rfl, _, rfl, ?_⟩
      by_cases c2 : 0 < n
      · rw [if_pos ⟨c1, c2⟩] at q
        rw [decide_eq_true c2]
        refine iteT ⟨.ref (fa sd), rfl, fa sd, _, rfl, .inl (ltI ho), n, _, rfl, rfl, _, rfl, ?_⟩
        by_cases c3 : (n - 1).toNat < (r.sends sd).length
        · rw [List.getElem?_eq_getElem c3] at q
          rw [decide_eq_true (by rw [List.length_map]; omega)]
          refine iteT ⟨.ref (fa sd), rfl, .int n, rfl, n, 1, rfl, rfl, fa sd, _, n - 1, .int (((r.sends sd)[(n - 1).toNat] : Nat) : Int), rfl, rfl, ltI ho, ?_, q⟩
          exact at_of (j := (n - 1).toNat) (by omega) (by rw [List.getElem?_map, List.getElem?_eq_getElem c3]; rfl)
        · rw [List.getElem?_eq_none (by omega)] at q
          rw [decide_eq_false (by rw [List.length_map]; omega)]
          exact iteF q
      · rw [if_neg (fun z => c2 z.2)] at q
        rw [decide_eq_false c2]
        exact ⟨false, rfl, iteF q⟩
    · rw [valV_out c1]
      rw [if_neg (fun z => c1 z.1)] at q
      exact iteT q
end
end KA

set_option Elab.async false
set_option linter.all false
set_option maxRecDepth 100000
set_option maxHeartbeats 4000000
namespace L2.Dx
open PySem PySem.Spec PyProof.Rows L2
/-- a dict comprehension over a list that stays -/
theorem dc_list {K : PySem.W.Frag} {a : Addr} {xs : List V} {g : TG} {tt : TT} {tk tv : TE} {vs : List Nat} {σ : St} {H1 : Hp} {D : Addr} {Qd : Hp → Prop} (Pv : Nat → Hp → Prop) (h0 : Pv 0 (upd H1 D (.dK []))) (hl : ∀ i H, i ≤ xs.length → Pv i H → SqL K H a xs)
    (hs : ∀ i x H, xs[i]? = some x → Pv i H → g x (wipe σ vs) H fun σ2 H2 => wipe σ2 vs = wipe σ vs ∧ tt σ2 H2 fun b H3 =>
      if b = true then tk σ2 H3 fun y H4 => tv σ2 H4 fun z H5 => ∃ kvs k, y = kV k ∧ H5 D = some (.dK kvs) ∧ kvs.length < sizeLine ∧ Pv (i + 1) (upd H5 D (.dK (putK kvs k z))) else Pv (i + 1) H3) (hd : ∀ H, Pv xs.length H → Qd H) :
    ∃ W : Nat → Nat → Hp → Prop, (∃ m, W 0 m (upd H1 D (.dK []))) ∧ ∀ i m H, W i m H →
      ((Itl K a).stop i H ∧ Qd H) ∨ ((Itl K a).go i H ∧ ∃ Nx : Hp → Prop, (∀ H', Nx H' → ∃ m', m' < m ∧ W (i + 1) m' H') ∧ ∀ x H', (Itl K a).yld i H x H' → g x (wipe σ vs) H' fun σ2 H2 => wipe σ2 vs = wipe σ vs ∧ tt σ2 H2 fun b H3 =>
        if b = true then tk σ2 H3 fun y H4 => tv σ2 H4 fun z H5 => ∃ kvs k, y = kV k ∧ H5 D = some (.dK kvs) ∧ kvs.length < sizeLine ∧ Nx (upd H5 D (.dK (putK kvs k z))) else Nx H3) := by
  refine ⟨fun i m H => m = xs.length - i ∧ i ≤ xs.length ∧ Pv i H, ⟨_, rfl, Nat.zero_le _, h0⟩, fun i m H ⟨em, hi, p⟩ => ?_⟩
  subst em
  rcases Nat.lt_or_ge i xs.length with lt | ge
  · refine .inr ⟨⟨xs, xs[i], hl i H hi p, List.getElem?_eq_getElem lt⟩, Pv (i + 1), fun H' p' => ⟨_, by omega, rfl, lt, p'⟩, fun x H' ⟨e, y⟩ => ?_⟩
    subst e
    exact hs i x _ (y xs (hl i _ hi p)) p
  · have e : xs.length = i := Nat.le_antisymm ge hi
    subst e
    exact .inl ⟨⟨xs, hl _ H hi p, Nat.le_refl _⟩, hd H p⟩
/-- a for over enumerate(list), the list stays -/
theorem for_enum {K : PySem.W.Frag} {a : Addr} {xs : List V} {g : TG} {tb : TS} {D : Ends} {σ : St} {H : Hp} (Pv : Nat → St → Hp → Prop) (h0 : Pv 0 σ H) (hl : ∀ i σ H, i ≤ xs.length → Pv i σ H → SqL K H a xs)
    (hs : ∀ i x σ H T, xs[i]? = some x → Pv i σ H → H T = none → g (.ref T) σ (upd H T (.tup [.int (i : Nat), x])) fun σ2 H2 => tb { D with nx := Pv (i + 1), ct := Pv (i + 1), bk := D.nx } σ2 H2) (hd : ∀ σ H, Pv xs.length σ H → D.nx σ H) :
    ∃ W : Nat → Nat → St → Hp → Prop, (∃ m, W 0 m σ H) ∧ ∀ i m σ H, W i m σ H →
      ((Ite K a).stop i H ∧ D.nx σ H) ∨ ((Ite K a).go i H ∧ ∃ N : St → Hp → Prop, (∀ σ' H', N σ' H' → ∃ m', m' < m ∧ W (i + 1) m' σ' H') ∧ ∀ x H', (Ite K a).yld i H x H' → g x σ H' fun σ2 H2 => tb { D with nx := N, ct := N, bk := D.nx } σ2 H2) := by
  refine ⟨fun i m σ H => m = xs.length - i ∧ i ≤ xs.length ∧ Pv i σ H, ⟨_, rfl, Nat.zero_le _, h0⟩, fun i m σ H ⟨em, hi, p⟩ => ?_⟩
  subst em
  rcases Nat.lt_or_ge i xs.length with lt | ge
  · refine .inr ⟨⟨xs, xs[i], hl i σ H hi p, List.getElem?_eq_getElem lt⟩, Pv (i + 1), fun σ' H' p' => ⟨_, by omega, rfl, lt, p'⟩, fun v H' ⟨T, x, ev, nT, eH, y⟩ => ?_⟩
    subst ev eH
    exact hs i x _ _ T (y xs (hl i _ _ hi p)) p nT
  · have e : xs.length = i := Nat.le_antisymm ge hi
    subst e
    exact .inl ⟨⟨xs, hl _ σ H hi p, Nat.le_refl _⟩, hd σ H p⟩
end L2.Dx
namespace KA
open PySem PySem.Spec PyProof.Rows L2 L2.Dx
theorem take_snoc {α : Type} {l : List α} {i : Nat} {x : α} (h : l[i]? = some x) : l.take (i + 1) = l.take i ++ [x] := by
  obtain ⟨h1, e⟩ := List.getElem?_eq_some_iff.mp h
  rw [List.take_succ, h]
  rfl
theorem notin_take {α : Type} {l : List α} {i : Nat} {x : α} (nd : l.Nodup) (h : l[i]? = some x) : x ∉ l.take i := fun hm => by
  obtain ⟨j, hj⟩ := List.getElem?_of_mem hm
  rw [List.getElem?_take] at hj
  by_cases c : j < i
  · rw [if_pos c] at hj
    have := nd_ix nd hj h
    omega
  · rw [if_neg c] at hj
    cases hj
/-- {x: a new empty thing for x in nodes} -/
theorem dc_nodes {K : PySem.W.Frag} {σ : L2.St} {H : Hp} {N D : Addr} {nodes : List Str} {o0 : HO} {j : Nat} {tv : TE} {Qd : Hp → Prop} (hj : j < σ.length) (hN : H N = some (.lst (nodes.map V.str))) (nd : nodes.Nodup) (hl : nodes.length ≤ 1000) (hD : H D = none)
    (hv : ∀ (σ : L2.St) (H : Hp) (Q : VK), (∀ p, H p = none → Q (.ref p) (upd H p o0)) → tv σ H Q)
    (q : ∀ (H' : Hp) (f : Str → Addr), Same H H' → H' D = some (.dK (nodes.map fun x => (Sum.inr x, V.ref (f x)))) → (∀ x ∈ nodes, H' (f x) = some o0 ∧ H (f x) = none ∧ f x ≠ D) → (∀ x ∈ nodes, ∀ y ∈ nodes, f x = f y → x = y) → Qd H') :
    ∃ W : Nat → Nat → Hp → Prop, (∃ m, W 0 m (upd H D (.dK []))) ∧ ∀ i m H, W i m H →
      ((Itl K N).stop i H ∧ Qd H) ∨ ((Itl K N).go i H ∧ ∃ Nx : Hp → Prop, (∀ H', Nx H' → ∃ m', m' < m ∧ W (i + 1) m' H') ∧ ∀ x H', (Itl K N).yld i H x H' → gName j x (wipe σ [j]) H' fun σ2 H2 => wipe σ2 [j] = wipe σ [j] ∧ tYes σ2 H2 fun b H3 =>
        if b = true then tVar j σ2 H3 fun y H4 => tv σ2 H4 fun z H5 => ∃ kvs k, y = kV k ∧ H5 D = some (.dK kvs) ∧ kvs.length < sizeLine ∧ Nx (upd H5 D (.dK (putK kvs k z))) else Nx H3) := by
  have hl' : nodes.length < sizeLine := small1000 hl
  refine dc_list (xs := nodes.map V.str) (fun i H' => Same H H' ∧ ∃ f : Str → Addr, H' D = some (.dK ((nodes.take i).map fun x => (Sum.inr x, V.ref (f x)))) ∧ (∀ x ∈ nodes.take i, H' (f x) = some o0 ∧ H (f x) = none ∧ f x ≠ D) ∧ ∀ x ∈ nodes.take i, ∀ y ∈ nodes.take i, f x = f y → x = y) ?_ ?_ ?_ ?_
  · exact ⟨same_new hD, fun _ => 0, upd_same, fun x hx => by simp at hx, fun x hx => by simp at hx⟩
  · exact fun i H' _ ⟨sm, _⟩ => ltI (sm _ _ hN)
  · rintro i v H' hx ⟨sm, f, hd, hf, inj⟩
    rw [List.getElem?_map] at hx
    obtain ⟨n, hn, rfl⟩ := Option.map_eq_some_iff.mp hx
    have nin := notin_take nd hn
    have hset : ((wipe σ [j]).set j (some (V.str n)))[j]? = some (some (V.str n)) := by
      rw [List.getElem?_set_self]
      rw [wipe_length]
      exact hj
    refine ⟨by simp [wipe, List.set_set], ?_⟩
    unfold tYes
    dsimp only
    rw [if_pos rfl]
    refine ⟨_, hset, hv _ _ _ fun p hp => ?_⟩
    have ndp : D ≠ p := ne_of_none hd hp
    refine ⟨_, Sum.inr n, rfl, (upd_ne ndp).trans hd, by rw [List.length_map]; exact Nat.lt_of_le_of_lt (List.length_take_le' _ _) hl', ?_⟩
    have hp0 : H p = none := sm.free hp
    refine ⟨same_put (same_put sm hp0) hD, fun y => if y = n then p else f y, ?_, ?_, ?_⟩
    · rw [upd_same, putK_new _ (valV_out nin), take_snoc hn, List.map_append]
      congr 2
      congr 1
      · refine List.map_congr_left fun y hy => ?_
        dsimp only
        rw [if_neg fun (z : y = n) => nin (by rw [← z]; exact hy)]
      · simp
    · intro x hx
      rw [take_snoc hn] at hx
      dsimp only
      by_cases e : x = n
      · rw [if_pos e, upd_ne (Ne.symm ndp), upd_same]
        exact ⟨rfl, hp0, Ne.symm ndp⟩
      · obtain ⟨k1, k2, k3⟩ := hf x ((List.mem_append.mp hx).resolve_right fun z => e (List.mem_singleton.mp z))
        rw [if_neg e, upd_ne k3, upd_ne (ne_of_none k1 hp)]
        exact ⟨k1, k2, k3⟩
    · intro x hx y hy
      rw [take_snoc hn] at hx hy
      dsimp only
      by_cases e : x = n <;> by_cases e' : y = n
      · intro _; rw [e, e']
      · rw [if_pos e, if_neg e']
        intro z
        have := (hf y ((List.mem_append.mp hy).resolve_right fun z => e' (List.mem_singleton.mp z))).1
        rw [← z, hp] at this
        cases this
      · rw [if_neg e, if_pos e']
        intro z
        have := (hf x ((List.mem_append.mp hx).resolve_right fun z => e (List.mem_singleton.mp z))).1
        rw [z, hp] at this
        cases this
      · rw [if_neg e, if_neg e']
        exact inj x ((List.mem_append.mp hx).resolve_right fun z => e (List.mem_singleton.mp z)) y ((List.mem_append.mp hy).resolve_right fun z => e' (List.mem_singleton.mp z))
  · rintro H' ⟨sm, f, hd, hf, inj⟩
    rw [List.length_map, List.take_length] at hd hf inj
    exact q H' f sm hd hf inj
/-! ### lists of texts as data -/
theorem dp_strs {K : PySem.W.Frag} {H : Hp} : ∀ (rs : List Str), DpAll K H (rs.map V.str) (rs.map PyData.str)
  | [] => .nil
  | x :: r => .cons (.str x) (dp_strs r)
theorem eqv_strs : ∀ (rs ts : List Str), PyData.eqvAll (rs.map PyData.str) (ts.map PyData.str) = decide (rs = ts)
  | [], [] => rfl
  | [], y :: t => rfl
  | x :: r, [] => rfl
  | x :: r, y :: t => by
    show (x == y && PyData.eqvAll (r.map PyData.str) (t.map PyData.str)) = _
    rw [eqv_strs r t, Bool.eq_iff_iff]
    simp
theorem depth_strs : ∀ (rs : List Str), PyData.depthAll (rs.map PyData.str) = 0
  | [] => rfl
  | x :: r => by
    show max 0 (PyData.depthAll (r.map PyData.str)) = 0
    rw [depth_strs r]
    rfl
end KA

set_option Elab.async false
set_option linter.all false
set_option maxRecDepth 100000
set_option maxHeartbeats 4000000
namespace KA
open PySem PySem.Spec PyProof.Rows L2 L2.Dx
/-! ### the reading of a run -/
theorem sends_ok {nodes : List Str} {es : List Ev} : ∀ {i : Nat}, OkTo nodes es i → ∀ {x : Str} {j : Nat}, j ∈ (Rs.upto nodes es i).sends x → x ∈ nodes ∧ j < i ∧ ∃ rs, es[j]? = some (.snd x rs) ∧ recvB nodes x rs = true
  | 0, _, _, _, h => nomatch h
  | i + 1, ok, x, j, h => by
    have ih : ∀ {x : Str} {j : Nat}, j ∈ (Rs.upto nodes es i).sends x → x ∈ nodes ∧ j < i ∧ ∃ rs, es[j]? = some (.snd x rs) ∧ recvB nodes x rs = true := sends_ok (i := i) fun k hk => ok k (Nat.lt_succ_of_lt hk)
    have up : ∀ {x : Str} {j : Nat}, j ∈ (Rs.upto nodes es i).sends x → x ∈ nodes ∧ j < i + 1 ∧ ∃ rs, es[j]? = some (.snd x rs) ∧ recvB nodes x rs = true := fun h => ⟨(ih h).1, Nat.lt_succ_of_lt (ih h).2.1, (ih h).2.2⟩
    cases he : es[i]? with
    | none =>
      have e : Rs.upto nodes es (i + 1) = Rs.upto nodes es i := by
        show (match es[i]? with | some e => (Rs.upto nodes es i).next nodes i e | none => Rs.upto nodes es i) = _
        rw [he]
      rw [e] at h
      exact up h
    | some e =>
      rw [upto_succ he] at h
      cases e with
      | opn y s n => exact up h
      | snd y rs =>
        have h : j ∈ (if x = y then (Rs.upto nodes es i).sends y ++ [i] else (Rs.upto nodes es i).sends x) := h
        by_cases e : x = y
        · subst e
          rw [if_pos rfl] at h
          rcases List.mem_append.mp h with h | h
          · exact up h
          · cases List.mem_singleton.mp h
            have := ok i (Nat.lt_succ_self i) _ he
            exact ⟨this.1, Nat.lt_succ_self _, rs, he, this.2⟩
        · rw [if_neg e] at h
          exact up h
theorem sentAt_mem {r : Rs} {nodes : List Str} {s : Str} {n : Int} {j : Nat} (h : sentAt r nodes s n = some j) : s ∈ nodes ∧ 0 < n ∧ (r.sends s)[(n - 1).toNat]? = some j ∧ j ∈ r.sends s := by
  unfold sentAt at h
  by_cases c : s ∈ nodes ∧ 0 < n
  · rw [if_pos c] at h
    exact ⟨c.1, c.2, h, List.mem_of_getElem? h⟩
  · rw [if_neg c] at h
    cases h
theorem recvB_mem {nodes : List Str} {x r : Str} {rs : List Str} (h : recvB nodes x rs = true) (hr : r ∈ rs) : r ∈ nodes ∧ r ≠ x := by
  unfold recvB at h
  rw [Bool.and_eq_true] at h
  exact ⟨(recvGo_mem h.2 r hr).1, (recvGo_mem h.2 r hr).2.1⟩
theorem recvAt_snd {es : List Ev} {j : Nat} {x : Str} {rs : List Str} (h : es[j]? = some (.snd x rs)) : recvAt es j = rs := by
  unfold recvAt
  rw [h]
structure Fix (H0 : Hp) (nodes : List Str) (d1 d2 : Addr) (f g : Str → Addr) : Prop where
  n1 : H0 d1 = none
  n2 : H0 d2 = none
  nf : ∀ x ∈ nodes, H0 (f x) = none
  ng : ∀ x ∈ nodes, H0 (g x) = none
  fi : ∀ x ∈ nodes, ∀ y ∈ nodes, f x = f y → x = y
  gi : ∀ x ∈ nodes, ∀ y ∈ nodes, g x = g y → x = y
  g1 : ∀ x ∈ nodes, g x ≠ d1
  g2 : ∀ x ∈ nodes, g x ≠ d2
structure Inv1 (H0 H : Hp) (nodes : List Str) (es : List Ev) (d1 d2 : Addr) (f g : Str → Addr) (i : Nat) : Prop where
  ok : OkTo nodes es i
  sm : Same H0 H
  s : SendsAt H d1 nodes f (Rs.upto nodes es i).sends
  o : OpensAt H d2 nodes g (Rs.upto nodes es i).opens
theorem OkTo.succ {nodes : List Str} {es : List Ev} {i : Nat} {e : Ev} (h : OkTo nodes es i) (he : es[i]? = some e) (ok : evOk nodes es (Rs.upto nodes es i) e) : OkTo nodes es (i + 1) := fun j hj e' he' => by
  by_cases c : j < i
  · exact h j c e' he'
  · have : j = i := by omega
    subst this
    rw [he] at he'
    cases he'
    exact ok
section
variable {H0 H : Hp} {nodes : List Str} {es : List Ev} {d1 d2 : Addr} {f g : Str → Addr} {i : Nat}
theorem Inv1.new {T : Addr} {o : HO} (I : Inv1 H0 H nodes es d1 d2 f g i) (h : H T = none) : Inv1 H0 (upd H T o) nodes es d1 d2 f g i :=
  ⟨I.ok, I.sm.trans (same_new h), I.s.same (same_new h), I.o.same (same_new h)⟩
theorem Inv1.send {x : Str} {rs : List Str} (F : Fix H0 nodes d1 d2 f g) (I : Inv1 H0 H nodes es d1 d2 f g i) (he : es[i]? = some (.snd x rs)) (hx : x ∈ nodes) (hr : recvB nodes x rs = true) :
    Inv1 H0 (upd H (f x) (.lst (ixs ((Rs.upto nodes es i).sends x) ++ [.int (i : Nat)]))) nodes es d1 d2 f g (i + 1) := by
  have hf := I.s.own x hx
  have n1 : d1 ≠ f x := ne_of I.s.at' hf (by intro z; cases z)
  have n2 : d2 ≠ f x := ne_of I.o.at' hf (by intro z; cases z)
  refine ⟨I.ok.succ he ⟨hx, hr⟩, same_put I.sm (F.nf x hx), ⟨(upd_ne n1).trans I.s.at', fun y hy => ?_⟩, ⟨(upd_ne n2).trans I.o.at', fun y hy => ?_⟩⟩
  · rw [upto_succ he]
    show _ = some (HO.lst (ixs (if y = x then (Rs.upto nodes es i).sends x ++ [i] else (Rs.upto nodes es i).sends y)))
    by_cases e : y = x
    · subst e
      rw [if_pos rfl, upd_same]
      simp [ixs]
    · rw [if_neg e, upd_ne fun z => e (F.fi y hy x hx z)]
      exact I.s.own y hy
  · rw [upto_succ he]
    show _ = some (HO.dK (ops ((Rs.upto nodes es i).opens y)))
    rw [upd_ne (ne_of (I.o.own y hy) hf (by intro z; cases z))]
    exact I.o.own y hy
theorem Inv1.opn {x s : Str} {n : Int} {j : Nat} (F : Fix H0 nodes d1 d2 f g) (I : Inv1 H0 H nodes es d1 d2 f g i) (he : es[i]? = some (.opn x s n)) (hj : sentAt (Rs.upto nodes es i) nodes s n = some j) (hx : x ∈ nodes) (hr : x ∈ recvAt es j)
    (hn : ((Rs.upto nodes es i).opens x).all (fun p => decide (p.1 ≠ j)) = true) :
    Inv1 H0 (upd H (g x) (.dK (putK (ops ((Rs.upto nodes es i).opens x)) (Sum.inl ((j : Nat) : Int)) (.int (i : Nat))))) nodes es d1 d2 f g (i + 1) := by
  have hg := I.o.own x hx
  refine ⟨I.ok.succ he ⟨j, hj, hr, hn⟩, same_put I.sm (F.ng x hx), ⟨(upd_ne (Ne.symm (F.g1 x hx))).trans I.s.at', fun y hy => ?_⟩, ⟨(upd_ne (Ne.symm (F.g2 x hx))).trans I.o.at', fun y hy => ?_⟩⟩
  · rw [upto_succ he]
    show _ = some (HO.lst (ixs ((Rs.upto nodes es i).sends y)))
    rw [upd_ne (ne_of (I.s.own y hy) hg (by intro z; cases z))]
    exact I.s.own y hy
  · rw [upto_succ he]
    show _ = some (HO.dK (ops (if y = x then (Rs.upto nodes es i).opens x ++ [((sentAt (Rs.upto nodes es i) nodes s n).getD 0, i)] else (Rs.upto nodes es i).opens y)))
    rw [hj]
    by_cases e : y = x
    · subst e
      rw [if_pos rfl, upd_same, putK_new]
      · simp [ops]
      · have := valV_ops (j := j) (l := (Rs.upto nodes es i).opens y)
        rw [hn] at this
        simpa using this
    · rw [if_neg e, upd_ne fun z => e (F.gi y hy x hx z)]
      exact I.o.own y hy
theorem not_ok {e : Ev} (hi : i < es.length) (he : es[i]? = some e) (h : ¬ evOk nodes es (Rs.upto nodes es i) e) : ¬ RunOk nodes es := fun ok => h (ok i hi e he)
end
theorem atI_last {xs : List V} {v : V} (h0 : 0 < xs.length) (h : xs[xs.length - 1]? = some v) : atI xs (-1) = some v := by
  have e : ixN xs.length (-1) = some (xs.length - 1) := by
    unfold ixN
    rw [if_neg (by decide), if_pos (by omega)]
    congr 1
    omega
  unfold atI
  rw [e]
  exact h
theorem len_ixs {l : List Nat} : (ixs l).length = l.length := List.length_map ..
theorem get_ixs {l : List Nat} {k j : Nat} (h : l[k]? = some j) : (ixs l)[k]? = some (.int (j : Nat)) := by
  rw [List.getElem?_map, h]
  rfl
theorem sends_len {nodes : List Str} {es : List Ev} {x : Str} : ∀ {i : Nat}, ((Rs.upto nodes es i).sends x).length ≤ i
  | 0 => Nat.le_refl _
  | i + 1 => by
    have ih := @sends_len nodes es x i
    cases he : es[i]? with
    | none =>
      have e : Rs.upto nodes es (i + 1) = Rs.upto nodes es i := by
        show (match es[i]? with | some e => (Rs.upto nodes es i).next nodes i e | none => Rs.upto nodes es i) = _
        rw [he]
      rw [e]
      omega
    | some e =>
      rw [upto_succ he]
      cases e with
      | opn y s n => exact Nat.le_succ_of_le ih
      | snd y rs =>
        show (if x = y then (Rs.upto nodes es i).sends y ++ [i] else (Rs.upto nodes es i).sends x).length ≤ _
        by_cases e : x = y
        · subst e
          rw [if_pos rfl, List.length_append]
          simpa using ih
        · rw [if_neg e]
          omega
theorem opens_len {nodes : List Str} {es : List Ev} {x : Str} : ∀ {i : Nat}, ((Rs.upto nodes es i).opens x).length ≤ i
  | 0 => Nat.le_refl _
  | i + 1 => by
    have ih := @opens_len nodes es x i
    cases he : es[i]? with
    | none =>
      have e : Rs.upto nodes es (i + 1) = Rs.upto nodes es i := by
        show (match es[i]? with | some e => (Rs.upto nodes es i).next nodes i e | none => Rs.upto nodes es i) = _
        rw [he]
      rw [e]
      omega
    | some e =>
      rw [upto_succ he]
      cases e with
      | snd y rs => exact Nat.le_succ_of_le ih
      | opn y s n =>
        show (if x = y then (Rs.upto nodes es i).opens y ++ [((sentAt (Rs.upto nodes es i) nodes s n).getD 0, i)] else (Rs.upto nodes es i).opens x).length ≤ _
        by_cases e : x = y
        · subst e
          rw [if_pos rfl, List.length_append]
          simpa using ih
        · rw [if_neg e]
          omega
end KA

set_option Elab.async false
set_option linter.all false
set_option maxRecDepth 100000
set_option maxHeartbeats 4000000
namespace L2.Dx
open PySem PySem.Spec PyProof.Rows L2
/-- two clauses: the outer one over a list that stays; R is what the inner loop is asked, given what it must reach -/
theorem dc2_outer {K : PySem.W.Frag} {a : Addr} {xs : List V} {g : TG} {o : HO} {vs : List Nat} {σ : St} {H1 : Hp} {D : Addr} {Qd : Hp → Prop} {R : St → Hp → (Hp → Prop) → Prop} (Pv : Nat → Hp → Prop) (h0 : Pv 0 (upd H1 D o)) (hl : ∀ i H, i ≤ xs.length → Pv i H → SqL K H a xs)
    (hs : ∀ i x H, xs[i]? = some x → Pv i H → g x (wipe σ vs) H fun σ2 H2 => wipe σ2 vs = wipe σ vs ∧ R σ2 H2 (Pv (i + 1))) (hd : ∀ H, Pv xs.length H → Qd H) :
    ∃ W : Nat → Nat → Hp → Prop, (∃ m, W 0 m (upd H1 D o)) ∧ ∀ i m H, W i m H →
      ((Itl K a).stop i H ∧ Qd H) ∨ ((Itl K a).go i H ∧ ∃ Nx : Hp → Prop, (∀ H', Nx H' → ∃ m', m' < m ∧ W (i + 1) m' H') ∧ ∀ x H', (Itl K a).yld i H x H' → g x (wipe σ vs) H' fun σ2 H2 => wipe σ2 vs = wipe σ vs ∧ R σ2 H2 Nx) := by
  refine ⟨fun i m H => m = xs.length - i ∧ i ≤ xs.length ∧ Pv i H, ⟨_, rfl, Nat.zero_le _, h0⟩, fun i m H ⟨em, hi, p⟩ => ?_⟩
  subst em
  rcases Nat.lt_or_ge i xs.length with lt | ge
  · refine .inr ⟨⟨xs, xs[i], hl i H hi p, List.getElem?_eq_getElem lt⟩, Pv (i + 1), fun H' p' => ⟨_, by omega, rfl, lt, p'⟩, fun x H' ⟨e, y⟩ => ?_⟩
    subst e
    exact hs i x _ (y xs (hl i _ hi p)) p
  · have e : xs.length = i := Nat.le_antisymm ge hi
    subst e
    exact .inl ⟨⟨xs, hl _ H hi p, Nat.le_refl _⟩, hd H p⟩
/-- the inner one over enumerate(list, start=k) -/
theorem dc2_inner {K : PySem.W.Frag} {a : Addr} {k0 : Int} {xs : List V} {g1 : TG} {vs1 : List Nat} {σ : St} {H1 : Hp} {Nx : Hp → Prop} {R : St → Hp → (Hp → Prop) → Prop} (P1 : Nat → Hp → Prop) (h0 : P1 0 H1) (hl : ∀ j H, j ≤ xs.length → P1 j H → SqL K H a xs)
    (hs : ∀ j x H T, xs[j]? = some x → P1 j H → H T = none → g1 (.ref T) (wipe σ vs1) (upd H T (.tup [.int (k0 + (j : Nat)), x])) fun σ3 H5 => wipe σ3 vs1 = wipe σ vs1 ∧ R σ3 H5 (P1 (j + 1))) (hd : ∀ H, P1 xs.length H → Nx H) :
    ∃ W1 : Nat → Nat → Hp → Prop, (∃ m, W1 0 m H1) ∧ ∀ j k H, W1 j k H →
      ((IteS K a k0).stop j H ∧ Nx H) ∨ ((IteS K a k0).go j H ∧ ∃ Nx1 : Hp → Prop, (∀ H', Nx1 H' → ∃ k', k' < k ∧ W1 (j + 1) k' H') ∧ ∀ x H', (IteS K a k0).yld j H x H' → g1 x (wipe σ vs1) H' fun σ3 H5 => wipe σ3 vs1 = wipe σ vs1 ∧ R σ3 H5 Nx1) := by
  refine ⟨fun i m H => m = xs.length - i ∧ i ≤ xs.length ∧ P1 i H, ⟨_, rfl, Nat.zero_le _, h0⟩, fun i m H ⟨em, hi, p⟩ => ?_⟩
  subst em
  rcases Nat.lt_or_ge i xs.length with lt | ge
  · refine .inr ⟨⟨xs, xs[i], hl i H hi p, List.getElem?_eq_getElem lt⟩, P1 (i + 1), fun H' p' => ⟨_, by omega, rfl, lt, p'⟩, fun v H' ⟨T, x, ev, nT, eH, y⟩ => ?_⟩
    subst ev eH
    exact hs i x _ T (y xs (hl i _ hi p)) p nT
  · have e : xs.length = i := Nat.le_antisymm ge hi
    subst e
    exact .inl ⟨⟨xs, hl _ H hi p, rfl⟩, hd H p⟩
end L2.Dx
namespace KA
open PySem PySem.Spec PyProof.Rows L2 L2.Dx
theorem cut_all (xs : List V) : cutV xs none none = xs := by
  unfold cutV
  rw [HT.sIx_none, HT.sIx_none]
  simp
/-! ### the messages of a run -/
def numFrom : Nat → List Nat → List (Nat × Nat)
  | _, [] => []
  | k, j :: t => (k, j) :: numFrom (k + 1) t
theorem numFrom_snoc (j : Nat) : ∀ (l : List Nat) (k : Nat), numFrom k (l ++ [j]) = numFrom k l ++ [(k + l.length, j)]
  | [], k => rfl
  | a :: t, k => by
    show (k, a) :: numFrom (k + 1) (t ++ [j]) = _
    rw [numFrom_snoc j t (k + 1), show k + (a :: t).length = k + 1 + t.length by rw [List.length_cons]; omega]
    rfl
theorem numFrom_mem {k a b : Nat} : ∀ {l : List Nat} {k : Nat}, (a, b) ∈ numFrom k l → k ≤ a ∧ a < k + l.length ∧ l[a - k]? = some b
  | [], _, h => nomatch h
  | j :: t, k, h => by
    rcases List.mem_cons.mp h with e | h
    · cases e
      refine ⟨Nat.le_refl _, by rw [List.length_cons]; omega, ?_⟩
      rw [Nat.sub_self]
      rfl
    · obtain ⟨h1, h2, h3⟩ := numFrom_mem (k := k) h
      refine ⟨by omega, by rw [List.length_cons]; omega, ?_⟩
      rw [show a - k = a - (k + 1) + 1 by omega, List.getElem?_cons_succ]
      exact h3
theorem numFrom_len : ∀ (l : List Nat) (k : Nat), (numFrom k l).length = l.length
  | [], _ => rfl
  | j :: t, k => by
    show (numFrom (k + 1) t).length + 1 = _
    rw [numFrom_len t]
    rfl
/-- (sender, number, place of the send) -/
abbrev Msg := Str × Nat × Nat
def msgsOf (x : Str) (l : List Nat) : List Msg := (numFrom 1 l).map fun p => (x, p.1, p.2)
def allMsgs (nodes : List Str) (S : Str → List Nat) : List Msg := nodes.flatMap fun x => msgsOf x (S x)
abbrev keyOf (t : Msg) : List Key := [Sum.inr t.1, Sum.inl ((t.2.1 : Nat) : Int)]
theorem valT_out {h : Msg → V} {k : List Key} : ∀ {L : List Msg}, (∀ t ∈ L, keyOf t ≠ k) → valV (L.map fun t => (keyOf t, h t)) k = none
  | [], _ => rfl
  | t :: r, hn => by
    rw [List.map_cons, valV_neg (hn t List.mem_cons_self)]
    exact valT_out fun u hu => hn u (List.mem_cons_of_mem _ hu)
theorem msgs_snoc {x : Str} {l : List Nat} {k j : Nat} (h : l[k]? = some j) : msgsOf x (l.take (k + 1)) = msgsOf x (l.take k) ++ [(x, k + 1, j)] := by
  unfold msgsOf
  rw [take_snoc h, numFrom_snoc, List.map_append]
  have : (l.take k).length = k := by
    rw [List.length_take]
    have := (List.getElem?_eq_some_iff.mp h).1
    omega
  rw [this, Nat.add_comm 1 k]
  rfl
theorem all_snoc {nodes : List Str} {S : Str → List Nat} {i : Nat} {x : Str} (h : nodes[i]? = some x) : allMsgs (nodes.take (i + 1)) S = allMsgs (nodes.take i) S ++ msgsOf x (S x) := by
  unfold allMsgs
  rw [take_snoc h, List.flatMap_append]
  simp
theorem msgsOf_mem {x : Str} {l : List Nat} {t : Msg} (h : t ∈ msgsOf x l) : t.1 = x ∧ 1 ≤ t.2.1 ∧ t.2.1 ≤ l.length ∧ l[t.2.1 - 1]? = some t.2.2 := by
  unfold msgsOf at h
  obtain ⟨⟨a, b⟩, hp, rfl⟩ := List.mem_map.mp h
  obtain ⟨h1, h2, h3⟩ := numFrom_mem (k := 0) hp
  exact ⟨rfl, h1, by show a ≤ _; omega, h3⟩
theorem all_mem {nodes : List Str} {S : Str → List Nat} {t : Msg} (h : t ∈ allMsgs nodes S) : t.1 ∈ nodes ∧ 1 ≤ t.2.1 ∧ t.2.1 ≤ (S t.1).length ∧ (S t.1)[t.2.1 - 1]? = some t.2.2 := by
  unfold allMsgs at h
  obtain ⟨x, hx, ht⟩ := List.mem_flatMap.mp h
  obtain ⟨rfl, h2⟩ := msgsOf_mem ht
  exact ⟨hx, h2⟩
/-- a dict from the messages L to lists of their receivers -/
structure MsgsAt (H0 H : Hp) (D : Addr) (es : List Ev) (L : List Msg) (h : Msg → Addr) : Prop where
  at' : H D = some (.dT (L.map fun t => (keyOf t, V.ref (h t))))
  own : ∀ t ∈ L, H (h t) = some (.lst ((recvAt es t.2.2).map V.str)) ∧ H0 (h t) = none ∧ h t ≠ D
  inj : ∀ t ∈ L, ∀ u ∈ L, h t = h u → t = u
theorem MsgsAt.same {H0 H H' : Hp} {D : Addr} {es : List Ev} {L : List Msg} {h : Msg → Addr} (M : MsgsAt H0 H D es L h) (s : Same H H') : MsgsAt H0 H' D es L h := ⟨s _ _ M.at', fun t ht => ⟨s _ _ (M.own t ht).1, (M.own t ht).2⟩, M.inj⟩
theorem MsgsAt.put {H0 H : Hp} {D p : Addr} {es : List Ev} {L : List Msg} {h : Msg → Addr} {u : Msg} (M : MsgsAt H0 H D es L h) (hu : ∀ t ∈ L, keyOf t ≠ keyOf u) (hp : H p = some (.lst ((recvAt es u.2.2).map V.str))) (h0 : H0 p = none) (hne : ∀ t ∈ L, h t ≠ p) :
    MsgsAt H0 (upd H D (.dT (putK (L.map fun t => (keyOf t, V.ref (h t))) (keyOf u) (.ref p)))) D es (L ++ [u]) (fun t => if t = u then p else h t) := by
  have nin : u ∉ L := fun z => hu u z rfl
  have pD : p ≠ D := ne_of hp M.at' (by intro z; cases z)
  refine ⟨?_, fun t ht => ?_, fun t ht v hv => ?_⟩
  · rw [upd_same, putK_new _ (valT_out hu), List.map_append]
    congr 2
    congr 1
    · refine List.map_congr_left fun t ht => ?_
      rw [if_neg fun (z : t = u) => nin (by rw [← z]; exact ht)]
    · simp
  · by_cases e : t = u
    · rw [if_pos e, upd_ne pD, e]
      exact ⟨hp, h0, pD⟩
    · have k := M.own t ((List.mem_append.mp ht).resolve_right fun z => e (List.mem_singleton.mp z))
      rw [if_neg e, upd_ne k.2.2]
      exact k
  · by_cases e : t = u <;> by_cases e' : v = u
    · intro _; rw [e, e']
    · rw [if_pos e, if_neg e']
      exact fun z => absurd z.symm (hne v ((List.mem_append.mp hv).resolve_right fun z => e' (List.mem_singleton.mp z)))
    · rw [if_neg e, if_pos e']
      exact fun z => absurd z (hne t ((List.mem_append.mp ht).resolve_right fun z => e (List.mem_singleton.mp z)))
    · rw [if_neg e, if_neg e']
      exact M.inj t ((List.mem_append.mp ht).resolve_right fun z => e (List.mem_singleton.mp z)) v ((List.mem_append.mp hv).resolve_right fun z => e' (List.mem_singleton.mp z))
end KA

set_option Elab.async false
set_option linter.all false
set_option maxRecDepth 100000
set_option maxHeartbeats 4000000
namespace KA
open PySem PySem.Spec PyProof.Rows L2 L2.Dx
def TextsOk (es : List Ev) : Prop := ∀ (i : Nat) (x : Str) (rs : List Str), es[i]? = some (.snd x rs) → PyData.canLayAll0 (rs.map PyData.str) = true
/-! ### runs that grow -/
abbrev rsOf (nodes : List Str) (es : List Ev) : Rs := Rs.upto nodes es es.length
theorem upto_app {nodes : List Str} {es t : List Ev} : ∀ {i : Nat}, i ≤ es.length → Rs.upto nodes (es ++ t) i = Rs.upto nodes es i
  | 0, _ => rfl
  | i + 1, h => by
    have e : (es ++ t)[i]? = es[i]? := List.getElem?_append_left (by omega)
    show (match (es ++ t)[i]? with | some e => (Rs.upto nodes (es ++ t) i).next nodes i e | none => Rs.upto nodes (es ++ t) i) = (match es[i]? with | some e => (Rs.upto nodes es i).next nodes i e | none => Rs.upto nodes es i)
    rw [e, upto_app (by omega)]
theorem recvAt_app {es t : List Ev} {j : Nat} (h : j < es.length) : recvAt (es ++ t) j = recvAt es j := by
  unfold recvAt
  rw [List.getElem?_append_left h]
theorem rsOf_snoc {nodes : List Str} {es : List Ev} {e : Ev} : rsOf nodes (es ++ [e]) = (rsOf nodes es).next nodes es.length e := by
  unfold rsOf
  rw [show (es ++ [e]).length = es.length + 1 by simp, upto_succ (i := es.length) (e := e) (by simp), upto_app (Nat.le_refl _)]
theorem sentAt_lt {nodes : List Str} {es : List Ev} {s : Str} {n : Int} {j : Nat} (ok : RunOk nodes es) (h : sentAt (rsOf nodes es) nodes s n = some j) : j < es.length := (sends_ok ok (sentAt_mem h).2.2.2).2.1
theorem evOk_app {nodes : List Str} {es t : List Ev} {i : Nat} {e : Ev} (ok : OkTo nodes es i) (hi : i ≤ es.length) : evOk nodes (es ++ t) (Rs.upto nodes (es ++ t) i) e ↔ evOk nodes es (Rs.upto nodes es i) e := by
  rw [upto_app hi]
  cases e with
  | snd x rs => exact Iff.rfl
  | opn x s n =>
    constructor
    · rintro ⟨j, h1, h2, h3⟩
      have lt := (sends_ok ok (sentAt_mem h1).2.2.2).2.1
      exact ⟨j, h1, by rw [← recvAt_app (t := t) (by omega)]; exact h2, h3⟩
    · rintro ⟨j, h1, h2, h3⟩
      have lt := (sends_ok ok (sentAt_mem h1).2.2.2).2.1
      exact ⟨j, h1, by rw [recvAt_app (t := t) (by omega)]; exact h2, h3⟩
theorem runOk_app {nodes : List Str} {es t : List Ev} (ok : RunOk nodes es) : OkTo nodes (es ++ t) es.length := fun i hi e he => by
  rw [List.getElem?_append_left hi] at he
  exact (evOk_app (fun j hj => ok j (by omega)) (by omega)).mpr (ok i hi e he)
theorem runOk_snoc {nodes : List Str} {es : List Ev} {e : Ev} (ok : RunOk nodes es) (h : evOk nodes es (rsOf nodes es) e) : RunOk nodes (es ++ [e]) := by
  unfold RunOk
  rw [show (es ++ [e]).length = es.length + 1 by simp]
  exact (runOk_app ok).succ (e := e) (by simp) ((evOk_app ok (Nat.le_refl _)).mpr h)
theorem not_runOk_snoc {nodes : List Str} {es : List Ev} {e : Ev} (ok : RunOk nodes es) (h : ¬ evOk nodes es (rsOf nodes es) e) : ¬ RunOk nodes (es ++ [e]) := fun ok' =>
  h ((evOk_app ok (Nat.le_refl _)).mp (ok' es.length (by simp) e (by simp)))
/-- who opens twice -/
theorem opened_in {nodes : List Str} {es : List Ev} : ∀ {k : Nat}, OkTo nodes es k → ∀ {i : Nat} {x s : Str} {n : Int}, i < k → es[i]? = some (.opn x s n) → ∃ j, sentAt (Rs.upto nodes es k) nodes s n = some j ∧ x ∈ recvAt es j ∧ (j, i) ∈ (Rs.upto nodes es k).opens x
  | 0, _, i, _, _, _, hi, _ => absurd hi (Nat.not_lt_zero _)
  | k + 1, ok, i, x, s, n, hi, he => by
    have ih := @opened_in nodes es k (fun j hj => ok j (by omega))
    cases hk : es[k]? with
    | none =>
      have h1 := (List.getElem?_eq_some_iff.mp he).1
      have h2 := List.getElem?_eq_none_iff.mp hk
      by_cases c : i = k
      · omega
      · have e : Rs.upto nodes es (k + 1) = Rs.upto nodes es k := by
          show (match es[k]? with | some e => (Rs.upto nodes es k).next nodes k e | none => Rs.upto nodes es k) = _
          rw [hk]
        rw [e]
        exact ih (by omega) he
    | some e =>
      rw [upto_succ hk]
      have keep : ∀ {j : Nat}, sentAt (Rs.upto nodes es k) nodes s n = some j → sentAt ((Rs.upto nodes es k).next nodes k e) nodes s n = some j := fun {j} h => by
        unfold sentAt at h ⊢
        by_cases c : s ∈ nodes ∧ 0 < n
        · rw [if_pos c] at h ⊢
          cases e with
          | opn y t m => exact h
          | snd y rs =>
            show (if s = y then (Rs.upto nodes es k).sends y ++ [k] else (Rs.upto nodes es k).sends s)[(n - 1).toNat]? = some j
            by_cases c2 : s = y
            · subst c2
              rw [if_pos rfl, List.getElem?_append_left (List.getElem?_eq_some_iff.mp h).1]
              exact h
            · rw [if_neg c2]
              exact h
        · rw [if_neg c] at h
          cases h
      by_cases c : i = k
      · subst c
        rw [he] at hk
        cases hk
        obtain ⟨j, h1, h2, h3⟩ := ok i (by omega) _ he
        refine ⟨j, keep h1, h2, ?_⟩
        show (j, i) ∈ (if x = x then (Rs.upto nodes es i).opens x ++ [((sentAt (Rs.upto nodes es i) nodes s n).getD 0, i)] else (Rs.upto nodes es i).opens x)
        rw [if_pos rfl, h1]
        simp
      · obtain ⟨j, h1, h2, h3⟩ := ih (by omega) he
        refine ⟨j, keep h1, h2, ?_⟩
        cases e with
        | snd y rs => exact h3
        | opn y t m =>
          show (j, i) ∈ (if x = y then (Rs.upto nodes es k).opens y ++ [((sentAt (Rs.upto nodes es k) nodes t m).getD 0, k)] else (Rs.upto nodes es k).opens x)
          by_cases c2 : x = y
          · subst c2
            rw [if_pos rfl]
            exact List.mem_append_left _ h3
          · rw [if_neg c2]
            exact h3
theorem not_again {nodes : List Str} {es : List Ev} {i : Nat} {x s : Str} {n : Int} (ok : RunOk nodes es) (he : es[i]? = some (.opn x s n)) : ¬ RunOk nodes (es ++ [.opn x s n]) := by
  refine not_runOk_snoc ok ?_
  rintro ⟨j, h1, h2, h3⟩
  obtain ⟨j', k1, k2, k3⟩ := opened_in ok (List.getElem?_eq_some_iff.mp he).1 he
  rw [h1] at k1
  cases k1
  rw [List.all_eq_true] at h3
  have := h3 _ k3
  simp at this
/-! ### opens that wait -/
structure Pend where
  x : Str
  s : Str
  n : Int
  j : Nat
abbrev Pend.ev (p : Pend) : Ev := .opn p.x p.s p.n
structure MInv (nodes : List Str) (es : List Ev) (pend : List Pend) : Prop where
  ok : RunOk nodes es
  nd : (pend.map fun p => (p.x, p.j)).Nodup
  good : ∀ p ∈ pend, sentAt (rsOf nodes es) nodes p.s p.n = some p.j ∧ p.x ∈ recvAt es p.j ∧ ((rsOf nodes es).opens p.x).all (fun q => decide (q.1 ≠ p.j)) = true
theorem sentAt_snoc {nodes : List Str} {es : List Ev} {e : Ev} {s : Str} {n : Int} {j : Nat} (h : sentAt (rsOf nodes es) nodes s n = some j) : sentAt (rsOf nodes (es ++ [e])) nodes s n = some j := by
  rw [rsOf_snoc]
  unfold sentAt at h ⊢
  by_cases c : s ∈ nodes ∧ 0 < n
  · rw [if_pos c] at h ⊢
    cases e with
    | opn y t m => exact h
    | snd y rs =>
      show (if s = y then (rsOf nodes es).sends y ++ [es.length] else (rsOf nodes es).sends s)[(n - 1).toNat]? = some j
      by_cases c2 : s = y
      · subst c2
        rw [if_pos rfl, List.getElem?_append_left (List.getElem?_eq_some_iff.mp h).1]
        exact h
      · rw [if_neg c2]
        exact h
  · rw [if_neg c] at h
    cases h
theorem opens_lt {nodes : List Str} {es : List Ev} {x : Str} : ∀ {k : Nat}, OkTo nodes es k → ∀ p ∈ (Rs.upto nodes es k).opens x, p.1 < k
  | 0, _, p, h => nomatch h
  | k + 1, ok, p, h => by
    have ih := @opens_lt nodes es x k fun j hj => ok j (by omega)
    cases hk : es[k]? with
    | none =>
      have e : Rs.upto nodes es (k + 1) = Rs.upto nodes es k := by
        show (match es[k]? with | some e => (Rs.upto nodes es k).next nodes k e | none => Rs.upto nodes es k) = _
        rw [hk]
      rw [e] at h
      have := ih p h
      omega
    | some e =>
      rw [upto_succ hk] at h
      cases e with
      | snd y rs =>
        have := ih p h
        omega
      | opn y t m =>
        have h : p ∈ (if x = y then (Rs.upto nodes es k).opens y ++ [((sentAt (Rs.upto nodes es k) nodes t m).getD 0, k)] else (Rs.upto nodes es k).opens x) := h
        by_cases c2 : x = y
        · subst c2
          rw [if_pos rfl] at h
          rcases List.mem_append.mp h with h | h
          · have := ih p h
            omega
          · rw [List.mem_singleton.mp h]
            obtain ⟨j, h1, _⟩ := ok k (by omega) _ hk
            rw [h1]
            have := (sends_ok (fun j hj => ok j (by omega)) (sentAt_mem h1).2.2.2).2.1
            show j < k + 1
            omega
        · rw [if_neg c2] at h
          have := ih p h
          omega
def newPend (nodes : List Str) (es : List Ev) (x : Str) (rs : List Str) : List Pend := rs.map fun r => ⟨r, x, (((rsOf nodes es).sends x).length + 1 : Nat), es.length⟩
theorem MInv.send {nodes : List Str} {es : List Ev} {pend : List Pend} {x : Str} {rs : List Str} (M : MInv nodes es pend) (hx : x ∈ nodes) (hr : recvB nodes x rs = true) (hnd : rs.Nodup) : MInv nodes (es ++ [.snd x rs]) (pend ++ newPend nodes es x rs) := by
  refine ⟨runOk_snoc M.ok ⟨hx, hr⟩, ?_, fun p hp => ?_⟩
  · rw [List.map_append, List.nodup_append]
    refine ⟨M.nd, ?_, ?_⟩
    · unfold newPend
      rw [List.map_map]
      refine List.Pairwise.map (S := fun a b => a ≠ b) _ (fun a b hab h => hab ?_) hnd
      exact (Prod.mk.inj h).1
    · intro a ha b hb e
      obtain ⟨p, hp, rfl⟩ := List.mem_map.mp ha
      obtain ⟨q, hq, rfl⟩ := List.mem_map.mp hb
      obtain ⟨r, _, rfl⟩ := List.mem_map.mp hq
      have := sentAt_lt M.ok (M.good p hp).1
      have e2 : p.j = es.length := (Prod.mk.inj e).2
      omega
  · rcases List.mem_append.mp hp with hp | hp
    · obtain ⟨h1, h2, h3⟩ := M.good p hp
      refine ⟨sentAt_snoc h1, by rw [recvAt_app (sentAt_lt M.ok h1)]; exact h2, ?_⟩
      rw [rsOf_snoc]
      exact h3
    · obtain ⟨r, hr', rfl⟩ := List.mem_map.mp hp
      refine ⟨?_, ?_, ?_⟩
      · rw [rsOf_snoc]
        unfold sentAt
        rw [if_pos ⟨hx, by show (0 : Int) < ((((rsOf nodes es).sends x).length + 1 : Nat) : Int); omega⟩]
        show (if x = x then (rsOf nodes es).sends x ++ [es.length] else (rsOf nodes es).sends x)[(((((rsOf nodes es).sends x).length + 1 : Nat) : Int) - 1).toNat]? = some es.length
        rw [if_pos rfl, show (((((rsOf nodes es).sends x).length + 1 : Nat) : Int) - 1).toNat = ((rsOf nodes es).sends x).length by omega]
        simp
      · show r ∈ recvAt (es ++ [.snd x rs]) es.length
        rw [recvAt_snd (x := x) (rs := rs) (by simp)]
        exact hr'
      · show ((rsOf nodes (es ++ [.snd x rs])).opens r).all (fun q => decide (q.1 ≠ es.length)) = true
        rw [rsOf_snoc]
        show ((rsOf nodes es).opens r).all (fun q => decide (q.1 ≠ es.length)) = true
        rw [List.all_eq_true]
        intro q hq
        have := opens_lt M.ok q hq
        simp
        omega
theorem MInv.open {nodes : List Str} {es : List Ev} {ps : List Pend} {p : Pend} (M : MInv nodes es (ps ++ [p])) : MInv nodes (es ++ [p.ev]) ps := by
  obtain ⟨h1, h2, h3⟩ := M.good p (by simp)
  have nd := M.nd
  rw [List.map_append, List.nodup_append] at nd
  refine ⟨runOk_snoc M.ok ⟨p.j, h1, h2, h3⟩, nd.1, fun q hq => ?_⟩
  obtain ⟨k1, k2, k3⟩ := M.good q (List.mem_append_left _ hq)
  refine ⟨sentAt_snoc k1, by rw [recvAt_app (sentAt_lt M.ok k1)]; exact k2, ?_⟩
  rw [rsOf_snoc]
  show (if q.x = p.x then (rsOf nodes es).opens p.x ++ [((sentAt (rsOf nodes es) nodes p.s p.n).getD 0, es.length)] else (rsOf nodes es).opens q.x).all (fun r => decide (r.1 ≠ q.j)) = true
  by_cases c : q.x = p.x
  · rw [if_pos c, h1, List.all_append, ← c, k3]
    have : p.j ≠ q.j := fun e => nd.2.2 (q.x, q.j) (List.mem_map.mpr ⟨q, hq, rfl⟩) (p.x, p.j) (by simp) (by rw [c, e])
    simp [this]
  · rw [if_neg c]
    exact k3
theorem MInv.rev {nodes : List Str} {es : List Ev} {ps : List Pend} (M : MInv nodes es ps) : MInv nodes es ps.reverse :=
  ⟨M.ok, by rw [List.map_reverse]; exact List.pairwise_reverse.mpr (M.nd.imp fun h e => h e.symm), fun p hp => M.good p (List.mem_reverse.mp hp)⟩
theorem recvB_sub {nodes rs : List Str} {x : Str} (hn : NodesOk nodes) (hs : rs.Sublist nodes) (h0 : rs ≠ []) (hx : ∀ r ∈ rs, r ≠ x) : recvB nodes x rs = true := by
  unfold recvB
  rw [recvGo_of (fun r hr => ⟨hs.subset hr, hx r hr, empty_lt (hn.nm r (hs.subset hr))⟩) (hn.asc.sublist hs)]
  cases rs with
  | nil => exact absurd rfl h0
  | cons _ _ => rfl
theorem name_strOk {z : Str} (h : NameOk z) : PyData.canLay0 (.str z) = true := by
  show z.cps.all (· < 0x110000) = true
  rw [← Array.all_toList, List.all_eq_true]
  intro c hc
  have := h.az c hc
  simp
  omega
theorem names_canLay : ∀ {rs : List Str}, (∀ r ∈ rs, NameOk r) → PyData.canLayAll0 (rs.map PyData.str) = true
  | [], _ => rfl
  | r :: t, h => by
    show (PyData.canLay0 (.str r) && PyData.canLayAll0 (t.map PyData.str)) = true
    rw [name_strOk (h r List.mem_cons_self), names_canLay fun y hy => h y (List.mem_cons_of_mem _ hy)]
    rfl
theorem texts_of {nodes : List Str} {es : List Ev} (hn : NodesOk nodes) (ok : RunOk nodes es) : TextsOk es := fun i x rs he =>
  names_canLay fun r hr => hn.nm r (recvB_mem (ok i (List.getElem?_eq_some_iff.mp he).1 _ he).2 hr).1
end KA

set_option Elab.async false
set_option linter.all false
set_option maxRecDepth 100000
set_option maxHeartbeats 16000000
namespace KA
open PySem PySem.Spec PyProof.Rows L2 L2.Dx
theorem shaped_strs {rs : List Str} (h : PyData.canLayAll0 (rs.map PyData.str) = true) : SeqAt.shaped (.list (rs.map PyData.str)) = true := by
  unfold SeqAt.shaped
  rw [show (PyData.list (rs.map PyData.str)).canLay0 = PyData.canLayAll0 (rs.map PyData.str) from rfl, h, show (PyData.list (rs.map PyData.str)).depth = PyData.depthAll (rs.map PyData.str) + 1 from rfl, depth_strs]
  rfl
section
variable {P : Program} {w : World} {K : PySem.W.Frag} {mg : Str → Option Value} {base : Heap}
def sp_scan_run (K : PySem.W.Frag) : Sp := fun vs H Q _ => ∃ (N R : Addr) (nodes : List Str) (as : List Addr) (es : List Ev), vs = [.ref N, .ref R] ∧ H N = some (.lst (nodes.map V.str)) ∧ NodesOk nodes ∧ RunAt H R as es ∧ es.length ≤ 1000 ∧ TextsOk es ∧
  (¬ RunOk nodes es → ∀ H', Same H H' → Q .non H') ∧
  (RunOk nodes es → ∀ (H' : Hp) (p d1 d2 : Addr) (f g : Str → Addr), Same H H' → H p = none → H' p = some (.tup [.ref d1, .ref d2]) → SendsAt H' d1 nodes f (Rs.upto nodes es es.length).sends → OpensAt H' d2 nodes g (Rs.upto nodes es es.length).opens → Q (.ref p) H')
theorem ok_scan_run (T : Txt K mg) : FnOk P w K mg base CX0 2 T.f_scan_run T.fd_scan_run ["nodes", "value"] (sp_scan_run K) := by
  refine T.F_scan_run.ok sc_scan_run (fun vs H Q E h => ?_) (fun cdv A outer s H vs Q E hr h => ?_)
  · obtain ⟨N, R, nodes, as, es, rfl, _⟩ := h
    rfl
  · obtain ⟨N, R, nodes, as, es, rfl, hN, hn, hR, hlen, htx, qN, qY⟩ := h
    refine ⟨_, (pss_cons (ps_if (pt_not (pt_val (pe_callB call_isi (by rfl) T.m_isinstance (by decide +kernel) (pa_cons (pv 1) (pa_cons (pe_bltn (v := .ty "list") (by rfl) T.m_list (by decide +kernel) rfl) pa_nil)))))
      (pss_one (ps_ret pe_non))
      pss_nil)
    (pss_cons (ps_setDc (i := 2) (own := [("node", 7)]) rfl sc_scan_run.nd rfl rfl (swd_true rfl rfl rfl (by decide +kernel)) (pi_list (pv 0)) (blkOk_by (N := ["nodes", "value", "sends", "opens", "index", "event", "kind", "node", "detail", "own", "sender", "number", "sent"]) (sc := defScope s_scan_run) (by decide +kernel)) (fun _ _ _ _ _ => (pg_name (i := 7) sc_scan_run.nd rfl (by first | exact .inl rfl | exact .inr rfl))) (fun _ _ _ _ _ => pts_nil) (fun _ _ _ _ _ => (pv 7)) (fun _ _ _ _ _ => (pe_lst pa_nil)))
    (pss_cons (ps_setDc (i := 3) (own := [("node", 7)]) rfl sc_scan_run.nd rfl rfl (swd_true rfl rfl rfl (by decide +kernel)) (pi_list (pv 0)) (blkOk_by (N := ["nodes", "value", "sends", "opens", "index", "event", "kind", "node", "detail", "own", "sender", "number", "sent"]) (sc := defScope s_scan_run) (by decide +kernel)) (fun _ _ _ _ _ => (pg_name (i := 7) sc_scan_run.nd rfl (by first | exact .inl rfl | exact .inr rfl))) (fun _ _ _ _ _ => pts_nil) (fun _ _ _ _ _ => (pv 7)) (fun _ _ _ _ _ => pe_dnewK))
    (pss_cons (ps_for PassesOwn.never rfl (pi_enum (by rfl) T.m_enumerate (pa_cons (pv 1) pa_nil)) (pg_tup rfl (pgs_cons (pg_name (i := 4) sc_scan_run.nd rfl (by first | exact .inl rfl | exact .inr rfl)) (pgs_cons (pg_name (i := 5) sc_scan_run.nd rfl (by first | exact .inl rfl | exact .inr rfl)) pgs_nil)))
      (pss_cons (ps_if (PW.pt (pw_or (pt_not (pt_val (pe_callB call_isi (by rfl) T.m_isinstance (by decide +kernel) (pa_cons (pv 5) (pa_cons (pe_bltn (v := .ty "tuple") (by rfl) T.m_tuple (by decide +kernel) rfl) pa_nil))))) (pw_or1 (pt_cmpR op_ne (pe_callB call_len_seq (by rfl) T.m_len PySem.boot_len (pa_cons (pv 5) pa_nil)) pe_int (nomark _)))))
        (pss_one (ps_ret pe_non))
        pss_nil)
      (pss_cons (ps_asg (pv 5) (pg_tup rfl (pgs_cons (pg_name (i := 6) sc_scan_run.nd rfl (by first | exact .inl rfl | exact .inr rfl)) (pgs_cons (pg_name (i := 7) sc_scan_run.nd rfl (by first | exact .inl rfl | exact .inr rfl)) (pgs_cons (pg_name (i := 8) sc_scan_run.nd rfl (by first | exact .inl rfl | exact .inr rfl)) pgs_nil)))))
      (pss_one (ps_if (pt_cmpR op_eq (pv 6) pe_str (nomark _))
        (pss_cons (ps_if (PW.pt (pw_or (pt_not (pt_val (pe_callB call_isi (by rfl) T.m_isinstance (by decide +kernel) (pa_cons (pv 7) (pa_cons (pe_bltn (v := .ty "str") (by rfl) T.m_str (by decide +kernel) rfl) pa_nil))))) (pw_or1 (pt_cmp (pc_dnotin (hu_of hr) (pv 7) (pv 2))))))
          (pss_one (ps_ret pe_non))
          pss_nil)
        (pss_cons (ps_set (i := 9) sc_scan_run.nd rfl (by first | exact .inl rfl | exact .inr rfl) (pe_dget (hu_of hr) (pv 2) (pv 7) (fun _ _ => rfl)))
        (pss_cons (ps_if (PW.pt (pw_and (PW.pt (pw_or (pt_not (pt_truth (pv 9) (fun _ => rfl))) (pw_or1 (pt_cmpR (op_neD hr.units) (pv 8) (pe_ix ix_tup (pe_ix ix_list (pv 1) (pe_ix ix_list (pv 9) (pe_un un_neg pe_int) (fun _ _ => rfl)) (fun _ _ => rfl)) pe_int (fun _ _ => rfl)) (nomark _))))) (pw_and1 (pt_not (pt_val (pe_call (ok_is_receivers T) (hr.mono (by decide)) rfl T.M_is_receivers T.F_is_receivers.kp (b_is_receivers T) .nil pass0 (pa_cons (pv 2) (pa_cons (pv 7) (pa_cons (pv 8) pa_nil)))))))))
          (pss_one (ps_ret pe_non))
          pss_nil)
        (pss_one (ps_expr (pe_bm PySem.F.plainAttrs_list PySem.F.slot_list_append PySem.F.type_list_append mt_append (pv 9) (pa_cons (pv 4) pa_nil)))))))
        (pss_one (ps_if (pt_cmpR op_eq (pv 6) pe_str (nomark _))
          (pss_cons (ps_if (PW.pt (pw_or (pt_not (pt_val (pe_callB call_isi (by rfl) T.m_isinstance (by decide +kernel) (pa_cons (pv 8) (pa_cons (pe_bltn (v := .ty "tuple") (by rfl) T.m_tuple (by decide +kernel) rfl) pa_nil))))) (pw_or1 (pt_cmpR op_ne (pe_callB call_len_seq (by rfl) T.m_len PySem.boot_len (pa_cons (pv 8) pa_nil)) pe_int (nomark _)))))
            (pss_one (ps_ret pe_non))
            pss_nil)
          (pss_cons (ps_asg (pv 8) (pg_tup rfl (pgs_cons (pg_name (i := 10) sc_scan_run.nd rfl (by first | exact .inl rfl | exact .inr rfl)) (pgs_cons (pg_name (i := 11) sc_scan_run.nd rfl (by first | exact .inl rfl | exact .inr rfl)) pgs_nil))))
          (pss_cons (ps_if (PW.pt (pw_or (pt_not (pt_val (pe_callB call_isi (by rfl) T.m_isinstance (by decide +kernel) (pa_cons (pv 10) (pa_cons (pe_bltn (v := .ty "str") (by rfl) T.m_str (by decide +kernel) rfl) pa_nil))))) (pw_or (pt_cmp (pc_dnotin (hu_of hr) (pv 10) (pv 2))) (pw_or (pt_not (pt_val (pe_callB call_isi (by rfl) T.m_isinstance (by decide +kernel) (pa_cons (pv 11) (pa_cons (pe_bltn (v := .ty "int") (by rfl) T.m_int (by decide +kernel) rfl) pa_nil))))) (pw_or1 (pt_cmpR op_is_ib (pv 11) pe_bl (nomark _)))))))
            (pss_one (ps_ret pe_non))
            pss_nil)
          (pss_cons (ps_set (i := 9) sc_scan_run.nd rfl (by first | exact .inl rfl | exact .inr rfl) (pe_dget (hu_of hr) (pv 2) (pv 10) (fun _ _ => rfl)))
          (pss_cons (ps_if (pt_not (pt_chain op_lt op_le pe_int (pv 11) (pe_callB call_len_seq (by rfl) T.m_len PySem.boot_len (pa_cons (pv 9) pa_nil))))
            (pss_one (ps_ret pe_non))
            pss_nil)
          (pss_cons (ps_set (i := 12) sc_scan_run.nd rfl (by first | exact .inl rfl | exact .inr rfl) (pe_ix ix_list (pv 9) (pe_op op_sub (pv 11) pe_int) (fun _ _ => rfl)))
          (pss_cons (ps_if (PW.pt (pw_or (pt_cmpR op_notIn_seq (pv 7) (pe_ix ix_tup (pe_ix ix_list (pv 1) (pv 12) (fun _ _ => rfl)) pe_int (fun _ _ => rfl)) rfl) (pw_or1 (pt_cmp (pc_din (hu_of hr) (pv 12) (pe_dget (hu_of hr) (pv 3) (pv 7) (fun _ _ => rfl)))))))
            (pss_one (ps_ret pe_non))
            pss_nil)
          (pss_one (ps_dput (hu_of hr) (pe_dget (hu_of hr) (pv 3) (pv 7) (fun _ _ => rfl)) (pv 12) (pv 4) rfl)))))))))
          (pss_one (ps_ret pe_non)))))))))
    (pss_one (ps_ret (pe_tup (pa_cons (pv 2) (pa_cons (pv 3) pa_nil))))))))), ?_⟩
    have nd := hn.nodup
    have n12 := hn.hi
    refine ⟨.ref R, rfl, _, _, _, _, true, rfl, .ty "list", .base (.lst hR.at'), kit_ty (by decide +kernel), true, rfl, iteF ?_⟩
    -- sends
    refine ⟨.ref N, rfl, N, rfl, ⟨_, ltI hN⟩, fun d1 hd1 => dc_nodes (o0 := .lst []) (show 7 < 13 by decide) hN nd (by omega) hd1 (fun σ H Q q => ⟨Nat.zero_le _, q⟩) fun H1 f s1 e1 f1 fi => ?_⟩
    -- opens
    refine ⟨.ref N, rfl, N, rfl, ⟨_, ltI (s1 _ _ hN)⟩, fun d2 hd2 => dc_nodes (o0 := .dK []) (show 7 < 13 by decide) (s1 _ _ hN) nd (by omega) hd2 (fun σ H Q q => q) fun H2 g s2 e2 g1 gi => ?_⟩
    have s02 : Same H H2 := s1.trans s2
    have FX : Fix H nodes d1 d2 f g := ⟨hd1, s1.free hd2, fun x hx => (f1 x hx).2.1, fun x hx => s1.free (g1 x hx).2.1, fi, gi, fun x hx z => (by
      have := (g1 x hx).2.1
      rw [z, e1] at this
      cases this), fun x hx => (g1 x hx).2.2⟩
    have I0 : Inv1 H H2 nodes es d1 d2 f g 0 := ⟨fun i hi => absurd hi (Nat.not_lt_zero _), s02, ⟨s2 _ _ e1, fun x hx => s2 _ _ (f1 x hx).1⟩, ⟨e2, fun x hx => (g1 x hx).1⟩⟩
    refine ⟨.ref R, rfl, R, _, rfl, ltI (s02 _ _ hR.at'), for_enum (xs := as.map V.ref) (fun i σ H' => Inv1 H H' nodes es d1 d2 f g i ∧ ∃ y4 y5 y6 y7 y8 y9 y10 y11 y12, σ = [some (.ref N), some (.ref R), some (.ref d1), some (.ref d2), y4, y5, y6, y7, y8, y9, y10, y11, y12]) ?_ ?_ ?_ ?_⟩
    · exact ⟨I0, none, none, none, none, none, none, none, none, none, rfl⟩
    · exact fun i σ H' _ hI => ltI (hI.1.sm _ _ hR.at')
    · rintro i v σ H' Tp hx ⟨I, y4, y5, y6, y7, y8, y9, y10, y11, y12, rfl⟩ hT
      rw [List.getElem?_map] at hx
      obtain ⟨a, ha, rfl⟩ := Option.map_eq_some_iff.mp hx
      have hia : i < es.length := by rw [← hR.len]; exact (List.getElem?_eq_some_iff.mp ha).1
      obtain ⟨e, he⟩ : ∃ e, es[i]? = some e := ⟨_, List.getElem?_eq_getElem hia⟩
      have hev0 : EvAt H a e := hR.ev i a e ha he
      refine ⟨Tp, _, rfl, tpI upd_same, rfl, _, _, rfl, _, _, rfl, rfl, ?_⟩
      have I1 := I.new (o := .tup [.int (i : Nat), .ref a]) hT
      have hev := hev0.same I1.sm
      have hRv : RunAt (upd H' Tp (.tup [.int (i : Nat), .ref a])) R as es := hR.same I1.sm
      generalize upd H' Tp (.tup [.int (i : Nat), .ref a]) = H3 at I1 hev hRv ⊢
      clear I hx hT
      have li : i < 1000 := by omega
      cases e with
      | snd x rs =>
        obtain ⟨l, hl1, hl2⟩ := hev
        refine ⟨.ref a, rfl, _, _, _, _, true, rfl, .ty "tuple", .base (.tup hl1), kit_ty (by decide +kernel), true, rfl, iteF ?_⟩
        refine ⟨.ref a, rfl, a, _, rfl, .inr (tpI hl1), rfl, false, rfl, iteF ?_⟩
        refine ⟨.ref a, rfl, a, _, rfl, tpI hl1, rfl, _, _, rfl, _, _, rfl, _, _, rfl, rfl, ?_⟩
        refine ⟨_, rfl, rfl, true, rfl, iteT ?_⟩
        refine ⟨.str x, rfl, _, _, _, _, true, rfl, .ty "str", .base (.str x), kit_ty (by decide +kernel), true, rfl, iteF ?_⟩
        refine ⟨.str x, rfl, .ref d1, rfl, d1, _, rfl, DGet.k (k := Sum.inr x) I1.s.at', _, rfl, ?_⟩
        by_cases c1 : x ∈ nodes
        · rw [valV_in c1]
          have hdg : DGet H3 d1 (.str x) (some (.ref (f x))) := by
            rw [← valV_in (h := fun x => V.ref (f x)) c1]
            exact DGet.k (k := Sum.inr x) I1.s.at'
          have own := I1.s.own x c1
          refine iteF ⟨.ref d1, rfl, .str x, rfl, d1, _, rfl, hdg, ?_⟩
          have step : recvB nodes x rs = true → Inv1 H (upd H3 (f x) (.lst (ixs ((Rs.upto nodes es i).sends x) ++ [.int (i : Nat)]))) nodes es d1 d2 f g (i + 1) := fun c2 => I1.send FX he c1 c2
          have bad : ¬ recvB nodes x rs = true → ∀ H', Same H H' → Q .non H' := fun c2 => qN (not_ok hia he fun z => c2 z.2)
          have hsl : ((Rs.upto nodes es i).sends x).length ≤ i := sends_len
          refine ⟨.ref (f x), rfl, !(ixs ((Rs.upto nodes es i).sends x)).isEmpty, .inl ⟨_, ltI own, rfl⟩, ?_⟩
          by_cases c0 : (Rs.upto nodes es i).sends x = []
          · rw [c0]
            refine iteT (iteT ?_)
            refine ⟨.ref d1, rfl, .str x, rfl, .ref l, rfl, d1, l, _, nodes, rs, x, rfl, I1.s.at', keys_map, hl2, _, rfl, ?_⟩
            by_cases c2 : recvB nodes x rs = true
            · rw [c2]
              refine iteF ⟨.ref (f x), rfl, .inl ⟨rfl, _, .inl (.inl own)⟩, _, rfl, f x, _, _, rfl, rfl, own, small1000 (by rw [len_ixs]; omega), step c2, _, _, _, _, _, _, _, _, _, rfl⟩
            · rw [Bool.not_eq_true _ |>.mp c2]
              exact iteT (bad c2 _ I1.sm)
          · obtain ⟨j0, hj0⟩ : ∃ j0, ((Rs.upto nodes es i).sends x)[((Rs.upto nodes es i).sends x).length - 1]? = some j0 := by
              have : 0 < ((Rs.upto nodes es i).sends x).length := List.length_pos_iff.mpr c0
              exact ⟨_, List.getElem?_eq_getElem (by omega)⟩
            have hpos : 0 < ((Rs.upto nodes es i).sends x).length := List.length_pos_iff.mpr c0
            obtain ⟨_, hj1, rs0, hj2, hj3⟩ := sends_ok I1.ok (List.mem_of_getElem? hj0)
            obtain ⟨a0, ha0, l0, hl3, hl4⟩ := hRv.get hj2
            have hne : (!(ixs ((Rs.upto nodes es i).sends x)).isEmpty) = true := by
              cases hz : (Rs.upto nodes es i).sends x with
              | nil => exact absurd hz c0
              | cons _ _ => rfl
            rw [hne]
            refine iteF ?_
            refine ⟨.ref l, rfl, .ref R, rfl, .ref (f x), rfl, 1, rfl, f x, _, -1, .int (j0 : Nat), rfl, rfl, ltI own, atI_last (by rw [len_ixs]; exact hpos) (by rw [len_ixs]; exact get_ixs hj0), ?_⟩
            refine ⟨R, _, _, .ref a0, rfl, rfl, ltI hRv.at', atI_nat (j := j0) (by rw [List.getElem?_map, ha0]; rfl), ?_⟩
            refine ⟨a0, _, 2, .ref l0, rfl, rfl, tpI hl3, atI_nat (j := 2) rfl, .list (rs.map .str), .list (rs0.map .str), .lst (ltI hl2) (dp_strs rs), .lst (ltI hl4) (dp_strs rs0), shaped_strs (htx i x rs he), shaped_strs (htx j0 x rs0 hj2), _, rfl, ?_⟩
            rw [show PyData.eqv (.list (rs.map .str)) (.list (rs0.map .str)) = decide (rs = rs0) from eqv_strs rs rs0]
            by_cases c3 : rs = rs0
            · have c2 : recvB nodes x rs = true := by rw [c3]; exact hj3
              rw [decide_eq_true c3]
              refine iteF (iteF ⟨.ref (f x), rfl, .inl ⟨rfl, _, .inl (.inl own)⟩, _, rfl, f x, _, _, rfl, rfl, own, small1000 (by rw [len_ixs]; omega), step c2, _, _, _, _, _, _, _, _, _, rfl⟩)
            · rw [decide_eq_false c3]
              refine iteT ⟨.ref d1, rfl, .str x, rfl, .ref l, rfl, d1, l, _, nodes, rs, x, rfl, I1.s.at', keys_map, hl2, _, rfl, ?_⟩
              by_cases c2 : recvB nodes x rs = true
              · rw [c2]
                refine iteF ⟨.ref (f x), rfl, .inl ⟨rfl, _, .inl (.inl own)⟩, _, rfl, f x, _, _, rfl, rfl, own, small1000 (by rw [len_ixs]; omega), step c2, _, _, _, _, _, _, _, _, _, rfl⟩
              · rw [Bool.not_eq_true _ |>.mp c2]
                exact iteT (bad c2 _ I1.sm)
        · rw [valV_out c1]
          refine iteT ?_
          exact qN (not_ok hia he fun z => c1 z.1) _ I1.sm
      | opn x sd n =>
        obtain ⟨m, hm1, hm2⟩ := hev
        refine ⟨.ref a, rfl, _, _, _, _, true, rfl, .ty "tuple", .base (.tup hm1), kit_ty (by decide +kernel), true, rfl, iteF ?_⟩
        refine ⟨.ref a, rfl, a, _, rfl, .inr (tpI hm1), rfl, false, rfl, iteF ?_⟩
        refine ⟨.ref a, rfl, a, _, rfl, tpI hm1, rfl, _, _, rfl, _, _, rfl, _, _, rfl, rfl, ?_⟩
        refine ⟨_, rfl, rfl, false, rfl, iteF ?_⟩
        refine ⟨_, rfl, rfl, true, rfl, iteT ?_⟩
        refine ⟨.ref m, rfl, _, _, _, _, true, rfl, .ty "tuple", .base (.tup hm2), kit_ty (by decide +kernel), true, rfl, iteF ?_⟩
        refine ⟨.ref m, rfl, m, _, rfl, .inr (tpI hm2), rfl, false, rfl, iteF ?_⟩
        refine ⟨.ref m, rfl, m, _, rfl, tpI hm2, rfl, _, _, rfl, _, _, rfl, rfl, ?_⟩
        refine ⟨.str sd, rfl, _, _, _, _, true, rfl, .ty "str", .base (.str sd), kit_ty (by decide +kernel), true, rfl, iteF ?_⟩
        refine ⟨.str sd, rfl, .ref d1, rfl, d1, _, rfl, DGet.k (k := Sum.inr sd) I1.s.at', _, rfl, ?_⟩
        have bad : (∀ j, sentAt (Rs.upto nodes es i) nodes sd n = some j → x ∈ recvAt es j → ((Rs.upto nodes es i).opens x).all (fun p => decide (p.1 ≠ j)) = true → False) → ∀ H', Same H H' → Q .non H' :=
          fun c => qN (not_ok hia he fun ⟨j, z1, z2, z3⟩ => c j z1 z2 z3)
        by_cases c1 : sd ∈ nodes
        · rw [valV_in c1]
          have hdg : DGet H3 d1 (.str sd) (some (.ref (f sd))) := by
            rw [← valV_in (h := fun x => V.ref (f x)) c1]
            exact DGet.k (k := Sum.inr sd) I1.s.at'
          have own := I1.s.own sd c1
          refine iteF ⟨.int n, rfl, _, _, _, _, true, rfl, .ty "int", .base (.int n), kit_ty (by decide +kernel), true, rfl, iteF ?_⟩
          refine ⟨.int n, rfl, n, true, rfl, rfl, false, rfl, iteF ?_⟩
          refine ⟨.ref d1, rfl, .str sd, rfl, d1, _, rfl, hdg, ?_⟩
          refine ⟨.int n, rfl, 0, n, rfl, rfl, _, rfl, ?_⟩
          by_cases c2 : 0 < n
          · rw [decide_eq_true c2]
            refine iteT ⟨.ref (f sd), rfl, f sd, _, rfl, .inl (ltI own), n, _, rfl, rfl, _, rfl, ?_⟩
            rw [len_ixs]
            by_cases c3 : n ≤ (((Rs.upto nodes es i).sends sd).length : Nat)
            · rw [decide_eq_true c3]
              have c3' : (n - 1).toNat < ((Rs.upto nodes es i).sends sd).length := by omega
              have hj : ((Rs.upto nodes es i).sends sd)[(n - 1).toNat]? = some (((Rs.upto nodes es i).sends sd)[(n - 1).toNat]) := List.getElem?_eq_getElem c3'
              generalize ((Rs.upto nodes es i).sends sd)[(n - 1).toNat] = j at hj
              have hsent : sentAt (Rs.upto nodes es i) nodes sd n = some j := by
                unfold sentAt
                rw [if_pos ⟨c1, c2⟩]
                exact hj
              obtain ⟨_, hj1, rs0, hj2, hj3⟩ := sends_ok I1.ok (List.mem_of_getElem? hj)
              obtain ⟨a0, ha0, l0, hl3, hl4⟩ := hRv.get hj2
              refine iteF ⟨.ref (f sd), rfl, .int n, rfl, n, 1, rfl, rfl, f sd, _, n - 1, .int (j : Nat), rfl, rfl, ltI own, at_of (j := (n - 1).toNat) (by omega) (get_ixs hj), ?_⟩
              refine ⟨.str x, rfl, .ref R, rfl, .int (j : Nat), rfl, R, _, _, .ref a0, rfl, rfl, ltI hRv.at', atI_nat (j := j) (by rw [List.getElem?_map, ha0]; rfl), ?_⟩
              refine ⟨a0, _, 2, .ref l0, rfl, rfl, tpI hl3, atI_nat (j := 2) rfl, l0, _, rfl, .inl (ltI hl4), rfl, flat_str rs0, _, rfl, ?_⟩
              rw [inV_str]
              have hra := recvAt_snd hj2
              by_cases c4 : x ∈ rs0
              · rw [decide_eq_true c4]
                have cx : x ∈ nodes := (recvB_mem hj3 c4).1
                have hog : DGet H3 d2 (.str x) (some (.ref (g x))) := by
                  rw [← valV_in (h := fun x => V.ref (g x)) cx]
                  exact DGet.k (k := Sum.inr x) I1.o.at'
                have oown := I1.o.own x cx
                have hol : ((Rs.upto nodes es i).opens x).length ≤ i := opens_len
                refine iteF ⟨.int (j : Nat), rfl, .ref d2, rfl, .str x, rfl, d2, _, rfl, hog, g x, _, rfl, DGet.k (k := Sum.inl ((j : Nat) : Int)) oown, _, rfl, ?_⟩
                rw [valV_ops]
                by_cases c5 : ((Rs.upto nodes es i).opens x).all (fun p => decide (p.1 ≠ j)) = true
                · rw [c5]
                  refine iteF ?_
                  refine ⟨_, rfl, .ref d2, rfl, .str x, rfl, d2, _, rfl, hog, .int (j : Nat), rfl, g x, _, rfl, DPut.k (k := Sum.inl ((j : Nat) : Int)) oown (small1000 (by rw [List.length_map]; omega)), ?_⟩
                  exact ⟨I1.opn FX he hsent cx (by rw [hra]; exact c4) c5, _, _, _, _, _, _, _, _, _, rfl⟩
                · rw [Bool.not_eq_true _ |>.mp c5]
                  refine iteT (bad (fun j' z1 z2 z3 => ?_) _ I1.sm)
                  rw [hsent] at z1
                  cases z1
                  exact c5 z3
              · rw [decide_eq_false c4]
                refine iteT (bad (fun j' z1 z2 z3 => ?_) _ I1.sm)
                rw [hsent] at z1
                cases z1
                rw [hra] at z2
                exact c4 z2
            · rw [decide_eq_false c3]
              refine iteT (bad (fun j' z1 z2 z3 => ?_) _ I1.sm)
              have := sentAt_mem z1
              have h9 := (List.getElem?_eq_some_iff.mp this.2.2.1).1
              omega
          · rw [decide_eq_false c2]
            exact ⟨false, rfl, iteT (bad (fun j' z1 z2 z3 => c2 (sentAt_mem z1).2.1) _ I1.sm)⟩
        · rw [valV_out c1]
          exact iteT (bad (fun j' z1 z2 z3 => c1 (sentAt_mem z1).1) _ I1.sm)
    · rintro σ H' ⟨I, y4, y5, y6, y7, y8, y9, y10, y11, y12, rfl⟩
      rw [List.length_map, hR.len] at I
      refine ⟨.ref d1, rfl, .ref d2, rfl, by show 2 ≤ sizeLine; decide, fun p hp => ?_⟩
      exact qY I.ok _ p d1 d2 f g (I.sm.trans (same_new hp)) (I.sm.free hp) upd_same (I.s.same (same_new hp)) (I.o.same (same_new hp))
end
end KA

set_option Elab.async false
set_option linter.all false
set_option maxRecDepth 100000
set_option maxHeartbeats 16000000
namespace KA
open PySem PySem.Spec PyProof.Rows L2 L2.Dx
section
variable {P : Program} {w : World} {K : PySem.W.Frag} {mg : Str → Option Value} {base : Heap}
def sp_check_nodes : Sp := fun vs H Q _ => ∃ (a : Addr) (ns : List Str), vs = [.ref a] ∧ H a = some (.lst (ns.map V.str)) ∧ NodesOk ns ∧ Q .non H
theorem ok_check_nodes (T : Txt K mg) : FnOk P w K mg base CX0 2 T.f_check_nodes T.fd_check_nodes ["nodes"] sp_check_nodes := by
  refine T.F_check_nodes.ok sc_check_nodes (fun vs H Q E h => ?_) (fun cdv A outer s H vs Q E hr h => ?_)
  · obtain ⟨a, ns, rfl, _⟩ := h
    rfl
  · obtain ⟨a, ns, rfl, ha, hn, q⟩ := h
    refine ⟨_, (pss_one (ps_if (pt_not (pt_val (pe_call (ok_is_nodes T) (hr.mono (by decide)) rfl T.M_is_nodes T.F_is_nodes.kp (b_is_nodes T) .nil pass0 (pa_cons (pv 0) pa_nil))))
      (pss_one ps_never)
      pss_nil)), ?_⟩
    exact ⟨.ref a, rfl, a, ns, rfl, ha, hn, true, rfl, iteF q⟩
def sp_check_node : Sp := fun vs H Q _ => ∃ (a : Addr) (ns : List Str) (x : Str), vs = [.ref a, .str x] ∧ H a = some (.lst (ns.map V.str)) ∧ x ∈ ns ∧ Q .non H
theorem ok_check_node (T : Txt K mg) : FnOk P w K mg base CX0 2 T.f_check_node T.fd_check_node ["nodes", "node"] sp_check_node := by
  refine T.F_check_node.ok sc_check_node (fun vs H Q E h => ?_) (fun cdv A outer s H vs Q E hr h => ?_)
  · obtain ⟨a, ns, x, rfl, _⟩ := h
    rfl
  · obtain ⟨a, ns, x, rfl, ha, hx, q⟩ := h
    refine ⟨_, (pss_one (ps_if (pt_not (pt_val (pe_call (ok_is_node T) (hr.mono (by decide)) rfl T.M_is_node T.F_is_node.kp (b_is_node T) .nil pass0 (pa_cons (pv 0) (pa_cons (pv 1) pa_nil)))))
      (pss_one ps_never)
      pss_nil)), ?_⟩
    refine ⟨.ref a, rfl, .str x, rfl, a, ns, x, rfl, ha, true, ?_, iteF q⟩
    rw [decide_eq_true hx]
def sp_check_message : Sp := fun vs H Q _ => ∃ (d m : Addr) (nodes : List Str) (fa : Str → Addr) (r : Rs) (s : Str) (n : Int) (j : Nat), vs = [.ref d, .ref m] ∧ SendsAt H d nodes fa r.sends ∧ H m = some (.tup [.str s, .int n]) ∧
  sentAt r nodes s n = some j ∧ Q (.int (j : Nat)) H
theorem ok_check_message (T : Txt K mg) : FnOk P w K mg base CX0 2 T.f_check_message T.fd_check_message ["sends", "message"] sp_check_message := by
  refine T.F_check_message.ok sc_check_message (fun vs H Q E h => ?_) (fun cdv A outer s H vs Q E hr h => ?_)
  · obtain ⟨d, m, nodes, fa, r, s, n, j, rfl, _⟩ := h
    rfl
  · obtain ⟨d, m, nodes, fa, r, sd, n, j, rfl, hS, hm, hj, q⟩ := h
    refine ⟨_, (pss_cons (ps_set (i := 2) sc_check_message.nd rfl (by first | exact .inl rfl | exact .inr rfl) (pe_call (ok_find_send T) (hr.mono (by decide)) rfl T.M_find_send T.F_find_send.kp (b_find_send T) .nil pass0 (pa_cons (pv 0) (pa_cons (pv 1) pa_nil))))
    (pss_cons (ps_if (pt_cmpR op_isN (pv 2) pe_non (nomark _))
      (pss_one ps_never)
      pss_nil)
    (pss_one (ps_ret (pv 2))))), ?_⟩
    refine ⟨.ref d, rfl, .ref m, rfl, d, m, nodes, fa, r, sd, n, rfl, hS, hm, ?_⟩
    rw [hj]
    exact ⟨_, rfl, rfl, false, rfl, iteF ⟨_, rfl, q⟩⟩
/-- nodes and a run of them -/
structure Given (H : Hp) (N R : Addr) (nodes : List Str) (as : List Addr) (es : List Ev) : Prop where
  n : H N = some (.lst (nodes.map V.str))
  ok : NodesOk nodes
  r : RunAt H R as es
  len : es.length ≤ 1000
  tx : TextsOk es
def sp_check_run : Sp := fun vs H Q _ => ∃ (N R : Addr) (nodes : List Str) (as : List Addr) (es : List Ev), vs = [.ref N, .ref R] ∧ Given H N R nodes as es ∧ RunOk nodes es ∧
  ∀ (H' : Hp) (p d1 d2 : Addr) (f g : Str → Addr), Same H H' → H p = none → H' p = some (.tup [.ref d1, .ref d2]) → SendsAt H' d1 nodes f (Rs.upto nodes es es.length).sends → OpensAt H' d2 nodes g (Rs.upto nodes es es.length).opens → Q (.ref p) H'
theorem ok_check_run (T : Txt K mg) : FnOk P w K mg base CX0 3 T.f_check_run T.fd_check_run ["nodes", "run"] sp_check_run := by
  refine T.F_check_run.ok sc_check_run (fun vs H Q E h => ?_) (fun cdv A outer s H vs Q E hr h => ?_)
  · obtain ⟨N, R, nodes, as, es, rfl, _⟩ := h
    rfl
  · obtain ⟨N, R, nodes, as, es, rfl, G, ok, q⟩ := h
    refine ⟨_, (pss_cons (ps_expr (pe_call (ok_check_nodes T) (hr.mono (by decide)) rfl T.M_check_nodes T.F_check_nodes.kp (b_check_nodes T) .nil pass0 (pa_cons (pv 0) pa_nil)))
    (pss_cons (ps_set (i := 2) sc_check_run.nd rfl (by first | exact .inl rfl | exact .inr rfl) (pe_call (ok_scan_run T) (hr.mono (by decide)) rfl T.M_scan_run T.F_scan_run.kp (b_scan_run T) .nil pass0 (pa_cons (pv 0) (pa_cons (pv 1) pa_nil))))
    (pss_cons (ps_if (pt_cmpR op_isN (pv 2) pe_non (nomark _))
      (pss_one ps_never)
      pss_nil)
    (pss_one (ps_ret (pv 2)))))), ?_⟩
    refine ⟨.ref N, rfl, N, nodes, rfl, G.n, G.ok, ?_⟩
    refine ⟨.ref N, rfl, .ref R, rfl, N, R, nodes, as, es, rfl, G.n, G.ok, G.r, G.len, G.tx, fun z => absurd ok z, fun _ H' p d1 d2 f g s1 s2 s3 s4 s5 => ?_⟩
    exact ⟨_, rfl, rfl, false, rfl, iteF ⟨_, rfl, q H' p d1 d2 f g s1 s2 s3 s4 s5⟩⟩
def sp_is_run : Sp := fun vs H Q _ => ∃ (N R : Addr) (nodes : List Str) (as : List Addr) (es : List Ev), vs = [.ref N, .ref R] ∧ Given H N R nodes as es ∧
  (RunOk nodes es → ∀ H', Same H H' → Q (.bl true) H') ∧ (¬ RunOk nodes es → ∀ H', Same H H' → Q (.bl false) H')
theorem ok_is_run (T : Txt K mg) : FnOk P w K mg base CX0 3 T.f_is_run T.fd_is_run ["nodes", "value"] sp_is_run := by
  refine T.F_is_run.ok sc_is_run (fun vs H Q E h => ?_) (fun cdv A outer s H vs Q E hr h => ?_)
  · obtain ⟨N, R, nodes, as, es, rfl, _⟩ := h
    rfl
  · obtain ⟨N, R, nodes, as, es, rfl, G, qY, qN⟩ := h
    refine ⟨_, (pss_cons (ps_expr (pe_call (ok_check_nodes T) (hr.mono (by decide)) rfl T.M_check_nodes T.F_check_nodes.kp (b_check_nodes T) .nil pass0 (pa_cons (pv 0) pa_nil)))
    (pss_one (ps_ret (pe_cmpR op_notN (pe_call (ok_scan_run T) (hr.mono (by decide)) rfl T.M_scan_run T.F_scan_run.kp (b_scan_run T) .nil pass0 (pa_cons (pv 0) (pa_cons (pv 1) pa_nil))) pe_non (nomark _))))), ?_⟩
    refine ⟨.ref N, rfl, N, nodes, rfl, G.n, G.ok, ?_⟩
    refine ⟨.ref N, rfl, .ref R, rfl, N, R, nodes, as, es, rfl, G.n, G.ok, G.r, G.len, G.tx, fun z H' s1 => ?_, fun z H' p d1 d2 f g s1 s2 s3 s4 s5 => ?_⟩
    · exact ⟨rfl, qN z H' s1⟩
    · exact ⟨rfl, qY z H' s1⟩
def sp_send_index : Sp := fun vs H Q _ => ∃ (N R m : Addr) (nodes : List Str) (as : List Addr) (es : List Ev) (s : Str) (n : Int) (j : Nat), vs = [.ref N, .ref R, .ref m] ∧ Given H N R nodes as es ∧ RunOk nodes es ∧ H m = some (.tup [.str s, .int n]) ∧
  sentAt (Rs.upto nodes es es.length) nodes s n = some j ∧ ∀ H', Same H H' → Q (.int (j : Nat)) H'
theorem ok_send_index (T : Txt K mg) : FnOk P w K mg base CX0 4 T.f_send_index T.fd_send_index ["nodes", "run", "message"] sp_send_index := by
  refine T.F_send_index.ok sc_send_index (fun vs H Q E h => ?_) (fun cdv A outer s H vs Q E hr h => ?_)
  · obtain ⟨N, R, m, nodes, as, es, s, n, j, rfl, _⟩ := h
    rfl
  · obtain ⟨N, R, m, nodes, as, es, sd, n, j, rfl, G, ok, hm, hj, q⟩ := h
    refine ⟨_, (pss_cons (ps_asg (pe_call (ok_check_run T) (hr.mono (by decide)) rfl T.M_check_run T.F_check_run.kp (b_check_run T) .nil pass0 (pa_cons (pv 0) (pa_cons (pv 1) pa_nil))) (pg_tup rfl (pgs_cons (pg_name (i := 3) sc_send_index.nd rfl (by first | exact .inl rfl | exact .inr rfl)) (pgs_cons (pg_name (i := 4) sc_send_index.nd rfl (by first | exact .inl rfl | exact .inr rfl)) pgs_nil))))
    (pss_one (ps_ret (pe_call (ok_check_message T) (hr.mono (by decide)) rfl T.M_check_message T.F_check_message.kp (b_check_message T) .nil pass0 (pa_cons (pv 3) (pa_cons (pv 2) pa_nil)))))), ?_⟩
    refine ⟨.ref N, rfl, .ref R, rfl, N, R, nodes, as, es, rfl, G, ok, fun H' p d1 d2 f g s1 s2 s3 s4 s5 => ?_⟩
    refine ⟨p, _, rfl, tpI s3, rfl, _, _, rfl, _, _, rfl, rfl, ?_⟩
    exact ⟨.ref d1, rfl, .ref m, rfl, d1, m, nodes, f, _, sd, n, j, rfl, s4, s1 _ _ hm, hj, q _ s1⟩
def sp_open_index : Sp := fun vs H Q _ => ∃ (N R m : Addr) (nodes : List Str) (as : List Addr) (es : List Ev) (s x : Str) (n : Int) (j : Nat), vs = [.ref N, .ref R, .ref m, .str x] ∧ Given H N R nodes as es ∧ RunOk nodes es ∧ H m = some (.tup [.str s, .int n]) ∧
  sentAt (Rs.upto nodes es es.length) nodes s n = some j ∧ x ∈ nodes ∧ ∀ H', Same H H' → Q ((valV (ops ((Rs.upto nodes es es.length).opens x)) (.inl ((j : Nat) : Int))).getD .non) H'
theorem ok_open_index (T : Txt K mg) : FnOk P w K mg base CX0 4 T.f_open_index T.fd_open_index ["nodes", "run", "message", "node"] sp_open_index := by
  refine T.F_open_index.ok sc_open_index (fun vs H Q E h => ?_) (fun cdv A outer s H vs Q E hr h => ?_)
  · obtain ⟨N, R, m, nodes, as, es, s, x, n, j, rfl, _⟩ := h
    rfl
  · obtain ⟨N, R, m, nodes, as, es, sd, x, n, j, rfl, G, ok, hm, hj, hx, q⟩ := h
    refine ⟨_, (pss_cons (ps_asg (pe_call (ok_check_run T) (hr.mono (by decide)) rfl T.M_check_run T.F_check_run.kp (b_check_run T) .nil pass0 (pa_cons (pv 0) (pa_cons (pv 1) pa_nil))) (pg_tup rfl (pgs_cons (pg_name (i := 4) sc_open_index.nd rfl (by first | exact .inl rfl | exact .inr rfl)) (pgs_cons (pg_name (i := 5) sc_open_index.nd rfl (by first | exact .inl rfl | exact .inr rfl)) pgs_nil))))
    (pss_cons (ps_set (i := 6) sc_open_index.nd rfl (by first | exact .inl rfl | exact .inr rfl) (pe_call (ok_check_message T) (hr.mono (by decide)) rfl T.M_check_message T.F_check_message.kp (b_check_message T) .nil pass0 (pa_cons (pv 4) (pa_cons (pv 2) pa_nil))))
    (pss_cons (ps_expr (pe_call (ok_check_node T) (hr.mono (by decide)) rfl T.M_check_node T.F_check_node.kp (b_check_node T) .nil pass0 (pa_cons (pv 0) (pa_cons (pv 3) pa_nil))))
    (pss_one (ps_ret (pe_dget1 (hu_of hr) (pe_dget (hu_of hr) (pv 5) (pv 3) (fun _ _ => rfl)) (pv 6) ⟨rfl, rfl, rfl, rfl⟩)))))), ?_⟩
    refine ⟨.ref N, rfl, .ref R, rfl, N, R, nodes, as, es, rfl, G, ok, fun H' p d1 d2 f g s1 s2 s3 s4 s5 => ?_⟩
    refine ⟨p, _, rfl, tpI s3, rfl, _, _, rfl, _, _, rfl, rfl, ?_⟩
    refine ⟨.ref d1, rfl, .ref m, rfl, d1, m, nodes, f, _, sd, n, j, rfl, s4, s1 _ _ hm, hj, ?_⟩
    refine ⟨.ref N, rfl, .str x, rfl, N, nodes, x, rfl, s1 _ _ G.n, hx, ?_⟩
    have hog : DGet H' d2 (.str x) (some (.ref (g x))) := by
      rw [← valV_in (h := fun x => V.ref (g x)) hx]
      exact DGet.k (k := Sum.inr x) s5.at'
    exact ⟨.ref d2, rfl, .str x, rfl, d2, _, rfl, hog, g x, rfl, .inl ⟨_, .inl (s5.own x hx)⟩, .int (j : Nat), rfl, _, DGet.k (k := Sum.inl ((j : Nat) : Int)) (s5.own x hx), q _ s1⟩
end
end KA

set_option Elab.async false
set_option linter.all false
set_option maxRecDepth 100000
set_option maxHeartbeats 16000000
namespace KA
open PySem PySem.Spec PyProof.Rows L2 L2.Dx
section
variable {P : Program} {w : World} {K : PySem.W.Frag} {mg : Str → Option Value} {base : Heap}
def sp_messages_of : Sp := fun vs H Q _ => ∃ (N R : Addr) (nodes : List Str) (as : List Addr) (es : List Ev), vs = [.ref N, .ref R] ∧ Given H N R nodes as es ∧ RunOk nodes es ∧
  ∀ (H' : Hp) (D : Addr) (h : Msg → Addr), Same H H' → H D = none → MsgsAt H H' D es (allMsgs nodes (Rs.upto nodes es es.length).sends) h → Q (.ref D) H'
theorem allMsgs_len {S : Str → List Nat} {m : Nat} (hS : ∀ x, (S x).length ≤ m) : ∀ nodes : List Str, (allMsgs nodes S).length ≤ nodes.length * m
  | [] => by simp [allMsgs]
  | x :: r => by
    have ih := allMsgs_len hS r
    unfold allMsgs at ih ⊢
    rw [List.flatMap_cons, List.length_append]
    have : (msgsOf x (S x)).length = (S x).length := by
      unfold msgsOf
      rw [List.length_map, numFrom_len]
    have h2 := hS x
    rw [this, List.length_cons, Nat.succ_mul]
    omega
theorem ok_messages_of (T : Txt K mg) : FnOk P w K mg base CX0 4 T.f_messages_of T.fd_messages_of ["nodes", "run"] sp_messages_of := by
  refine T.F_messages_of.ok sc_messages_of (fun vs H Q E h => ?_) (fun cdv A outer s H vs Q E hr h => ?_)
  · obtain ⟨N, R, nodes, as, es, rfl, _⟩ := h
    rfl
  · obtain ⟨N, R, nodes, as, es, rfl, G, ok, q⟩ := h
    refine ⟨_, (pss_cons (ps_asg (pe_call (ok_check_run T) (hr.mono (by decide)) rfl T.M_check_run T.F_check_run.kp (b_check_run T) .nil pass0 (pa_cons (pv 0) (pa_cons (pv 1) pa_nil))) (pg_tup rfl (pgs_cons (pg_name (i := 2) sc_messages_of.nd rfl (by first | exact .inl rfl | exact .inr rfl)) (pgs_cons (pg_name (i := 3) sc_messages_of.nd rfl (by first | exact .inl rfl | exact .inr rfl)) pgs_nil))))
    (pss_one (ps_ret (pe_dc2 (own := [("node", 4), ("number", 5), ("index", 6)]) (vs1 := [5, 6]) (hu_of hr) newT rfl sc_messages_of.nd (pi_list (pv 0)) (blkOk_by (N := ["nodes", "run", "sends", "_", "node", "number", "index"]) (sc := defScope s_messages_of) (by decide +kernel)) (by decide) (fun _ _ _ _ _ => (pg_name (i := 4) sc_messages_of.nd rfl (by first | exact .inl rfl | exact .inr rfl))) (fun _ _ _ _ _ => pts_nil) (fun _ _ _ _ _ => (pi_enumSK (K := K) rfl (by decide) (by decide) (by rfl) T.m_enumerate (pa_cons (pe_dget (hu_of hr) (pv 2) (pv 4) (fun _ _ => rfl)) pa_nil))) (fun _ _ _ _ _ => (pg_tupK (K := K) rfl 2 rfl (pgs_cons (pg_name (i := 5) sc_messages_of.nd rfl (by first | exact .inl rfl | exact .inr rfl)) (pgs_cons (pg_name (i := 6) sc_messages_of.nd rfl (by first | exact .inl rfl | exact .inr rfl)) pgs_nil)))) (fun _ _ _ _ _ => pts_nil) (fun _ _ _ _ _ => (pe_tup (pa_cons (pv 4) (pa_cons (pv 5) pa_nil)))) (fun _ _ _ _ _ => (pe_slice (sl_listK (K := K) rfl) (pe_ix (ix_tupK (K := K) rfl) (pe_ix (ix_listK (K := K) rfl) (pv 1) (pv 6) (fun _ _ => rfl)) pe_int (fun _ _ => rfl)) po_none po_none)))))), ?_⟩
    refine ⟨.ref N, rfl, .ref R, rfl, N, R, nodes, as, es, rfl, G, ok, fun H1 p d1 d2 f g s1 s2 s3 s4 s5 => ?_⟩
    refine ⟨p, _, rfl, tpI s3, rfl, _, _, rfl, _, _, rfl, rfl, ?_⟩
    have n12 := G.ok.hi
    have nd := G.ok.nodup
    generalize hS : (Rs.upto nodes es es.length).sends = S at s4 q
    have hSl : ∀ x, (S x).length ≤ 1000 := fun x => by rw [← hS]; exact Nat.le_trans sends_len G.len
    have hSo : ∀ {x : Str} {j : Nat}, j ∈ S x → x ∈ nodes ∧ j < es.length ∧ ∃ rs, es[j]? = some (.snd x rs) ∧ recvB nodes x rs = true := fun hj => by rw [← hS] at hj; exact sends_ok ok hj
    refine ⟨.ref N, rfl, N, rfl, ⟨_, ltI (s1 _ _ G.n)⟩, fun D hD => dc2_outer (xs := nodes.map V.str) (fun i H' => Same H1 H' ∧ ∃ h, MsgsAt H H' D es (allMsgs (nodes.take i) S) h) ?_ ?_ ?_ ?_⟩
    · exact ⟨same_new hD, fun _ => 0, upd_same, (fun t ht => by cases ht), (fun t ht => by cases ht)⟩
    · exact fun i H' _ hI => ltI (hI.1 _ _ (s1 _ _ G.n))
    · rintro i v H' hx ⟨sm, h, hM⟩
      rw [List.getElem?_map] at hx
      obtain ⟨x, hn, rfl⟩ := Option.map_eq_some_iff.mp hx
      have hxn := List.mem_of_getElem? hn
      refine ⟨rfl, ?_⟩
      dsimp only [tYes]
      rw [if_pos rfl]
      have sf := (s4.same sm)
      have hdg : DGet H' d1 (.str x) (some (.ref (f x))) := by
        rw [← valV_in (h := fun x => V.ref (f x)) hxn]
        exact DGet.k (k := Sum.inr x) sf.at'
      refine ⟨.ref d1, rfl, .str x, rfl, d1, _, rfl, hdg, f x, _, rfl, ltI (sf.own x hxn), dc2_inner (xs := ixs (S x)) (fun k H2 => Same H1 H2 ∧ ∃ h, MsgsAt H H2 D es (allMsgs (nodes.take i) S ++ msgsOf x ((S x).take k)) h) ?_ ?_ ?_ ?_⟩
      · refine ⟨sm, h, ?_⟩
        simpa [msgsOf, numFrom] using hM
      · exact fun k H2 _ hI => ltI ((s4.same hI.1).own x hxn)
      · rintro k v2 H2 Tp hk ⟨sm2, h2, hM2⟩ hT
        rw [List.getElem?_map] at hk
        obtain ⟨j, hj, rfl⟩ := Option.map_eq_some_iff.mp hk
        obtain ⟨_, hjl, rs, hjs, _⟩ := hSo (List.mem_of_getElem? hj)
        have hRv : RunAt (upd H2 Tp (.tup [.int (1 + (k : Nat)), .int (j : Nat)])) R as es := G.r.same (s1.trans (sm2.trans (same_new hT)))
        obtain ⟨a, ha, l, hl1, hl2⟩ := hRv.get hjs
        refine ⟨Tp, _, rfl, tpI upd_same, rfl, _, _, rfl, _, _, rfl, rfl, rfl, ?_⟩
        have sm3 : Same H1 (upd H2 Tp (.tup [.int (1 + (k : Nat)), .int (j : Nat)])) := sm2.trans (same_new hT)
        have hM3 := hM2.same (same_new (o := .tup [.int (1 + (k : Nat)), .int (j : Nat)]) hT)
        generalize upd H2 Tp (.tup [.int (1 + (k : Nat)), .int (j : Nat)]) = H3 at hRv hl1 hl2 sm3 hM3 ⊢
        dsimp only [tYes]
        rw [if_pos rfl]
        -- the key
        refine ⟨.str x, rfl, .int (1 + (k : Nat)), rfl, by show 2 ≤ sizeLine; decide, fun qk hqk => ?_⟩
        have sq : Same H3 (upd H3 qk (.tup [.str x, .int (1 + (k : Nat))])) := same_new hqk
        -- the value
        refine ⟨.ref R, rfl, .int (j : Nat), rfl, R, _, _, .ref a, rfl, rfl, ltI (sq _ _ hRv.at'), atI_nat (j := j) (by rw [List.getElem?_map, ha]; rfl), ?_⟩
        refine ⟨a, _, 2, .ref l, rfl, rfl, tpI (sq _ _ hl1), atI_nat (j := 2) rfl, ?_⟩
        refine ⟨l, _, rfl, ltI (sq _ _ hl2), fun pv hpv => ?_⟩
        rw [cut_all]
        have sv : Same (upd H3 qk (.tup [.str x, .int (1 + (k : Nat))])) (upd (upd H3 qk (.tup [.str x, .int (1 + (k : Nat))])) pv (.lst (rs.map V.str))) := same_new hpv
        have hqv := sv _ _ (upd_same (H := H3) (a := qk) (o := .tup [.str x, .int (1 + (k : Nat))]))
        have hM4 := (hM3.same sq).same sv
        have hpq : H3 pv = none := sq.free hpv
        have ek : (1 + (k : Nat) : Int) = ((k + 1 : Nat) : Int) := by omega
        have hnew : ∀ t ∈ allMsgs (nodes.take i) S ++ msgsOf x ((S x).take k), keyOf t ≠ keyOf (x, k + 1, j) := fun t ht z => by
          have z1 : t.1 = x := Sum.inr.inj (List.cons.inj z).1
          have z2 : ((t.2.1 : Nat) : Int) = ((k + 1 : Nat) : Int) := Sum.inl.inj (List.cons.inj (List.cons.inj z).2).1
          rcases List.mem_append.mp ht with ht | ht
          · have := (all_mem ht).1
            rw [z1] at this
            exact notin_take nd hn this
          · have := (msgsOf_mem ht).2.2.1
            rw [List.length_take] at this
            omega
        have hlen : (allMsgs (nodes.take i) S ++ msgsOf x ((S x).take k)).length < 100000 := by
          have h1 := allMsgs_len hSl (nodes.take i)
          have h2 : (nodes.take i).length ≤ 12 := Nat.le_trans (List.length_take_le' _ _) n12
          have h3 : (msgsOf x ((S x).take k)).length ≤ 1000 := by
            unfold msgsOf
            rw [List.length_map, numFrom_len]
            exact Nat.le_trans (List.length_take_le' _ _) (hSl x)
          have h4 := Nat.mul_le_mul_right 1000 h2
          rw [List.length_append]
          omega
        refine ⟨_, DPut.t (k := keyOf (x, k + 1, j)) hM4.at' ?_ (Nat.lt_trans (by rw [List.length_map]; exact hlen) (by decide)), ?_, ?_⟩
        · rw [hqv, ek]
          rfl
        · exact same_put ((sm3.trans sq).trans sv) hD
        · have hp0 : H pv = none := s1.free (sm3.free hpq)
          refine ⟨fun t => if t = (x, k + 1, j) then pv else h2 t, ?_⟩
          rw [msgs_snoc hj, ← List.append_assoc]
          refine hM4.put hnew ?_ hp0 fun t ht z => ?_
          · rw [upd_same, recvAt_snd hjs]
          · have := (hM3.own t ht).1
            rw [z, hpq] at this
            cases this
      · rintro H2 ⟨sm2, h2, hM2⟩
        rw [len_ixs, List.take_length] at hM2
        exact ⟨sm2, h2, by rw [all_snoc hn]; exact hM2⟩
    · rintro H' ⟨sm, h, hM⟩
      rw [List.length_map, List.take_length] at hM
      exact q H' D h (s1.trans sm) (s1.free hD) hM
end
end KA

set_option Elab.async false
set_option linter.all false
set_option maxRecDepth 100000
set_option maxHeartbeats 4000000
namespace KA
open PySem PySem.Spec PyProof.Rows L2 L2.Dx Kx
/-- a seed list -/
def SeedAt (H : Hp) (a : Addr) : Prop := ∃ x y z : Int, H a = some (.lst [.int x, .int y, .int z]) ∧ 0 ≤ x ∧ 0 ≤ y ∧ y.natAbs < 2 ^ 200
/-- an event none of whose parts is at Z -/
def EvZ (Z : List Addr) (H : Hp) (a : Addr) : Ev → Prop
  | .snd x rs => ∃ l, a ∉ Z ∧ l ∉ Z ∧ H a = some (.tup [.str "send", .str x, .ref l]) ∧ H l = some (.lst (rs.map V.str))
  | .opn x s n => ∃ m, a ∉ Z ∧ m ∉ Z ∧ H a = some (.tup [.str "open", .str x, .ref m]) ∧ H m = some (.tup [.str s, .int n])
theorem EvZ.at' {Z : List Addr} {H : Hp} {a : Addr} {e : Ev} (h : EvZ Z H a e) : EvAt H a e := by
  cases e with
  | snd x rs => exact h.elim fun l k => ⟨l, k.2.2⟩
  | opn x s n => exact h.elim fun l k => ⟨l, k.2.2⟩
theorem EvZ.but {Z : List Addr} {H H' : Hp} {a : Addr} {e : Ev} (h : EvZ Z H a e) (b : But Z H H') : EvZ Z H' a e := by
  cases e with
  | snd x rs => exact h.elim fun l ⟨k1, k2, k3, k4⟩ => ⟨l, k1, k2, b _ _ k1 k3, b _ _ k2 k4⟩
  | opn x s n => exact h.elim fun l ⟨k1, k2, k3, k4⟩ => ⟨l, k1, k2, b _ _ k1 k3, b _ _ k2 k4⟩
theorem EvZ.same {Z : List Addr} {H H' : Hp} {a : Addr} {e : Ev} (h : EvZ Z H a e) (s : Same H H') : EvZ Z H' a e := h.but (But.same s)
theorem EvZ.opn_put {Z : List Addr} {H : Hp} {a D : Addr} {x s : Str} {n : Int} {xs : List V} {o : HO} (h : EvZ Z H a (.opn x s n)) (hd : H D = some (.lst xs)) : EvZ Z (upd H D o) a (.opn x s n) := by
  obtain ⟨m, k1, k2, k3, k4⟩ := h
  exact ⟨m, k1, k2, (upd_ne (ne_of k3 hd (by intro z; cases z))).trans k3, (upd_ne (ne_of k4 hd (by intro z; cases z))).trans k4⟩
def CntAt (kvs : List (Key × V)) (S : Str → List Nat) : Prop := ∀ x : Str, valV kvs (.inr x) = if (S x).length = 0 then none else some (.int ((S x).length : Nat))
/-- where the four changing objects stand, that they are new, apart -/
structure Four (H0 : Hp) (sd F C W : Addr) : Prop where
  nF : H0 F = none
  nC : H0 C = none
  nW : H0 W = none
  fs : F ≠ sd
  cs : C ≠ sd
  ws : W ≠ sd
  fc : F ≠ C
  fw : F ≠ W
  cw : C ≠ W
abbrev zz (sd F C W : Addr) : List Addr := [sd, F, C, W]
structure LInv (H0 H : Hp) (sd F C W : Addr) (nodes : List Str) (es : List Ev) (as : List Addr) (pend : List Pend) (ws : List Addr) (kvs : List (Key × V)) : Prop where
  m : MInv nodes es pend
  f : H F = some (.lst (as.map V.ref))
  c : H C = some (.dK kvs)
  w : H W = some (.lst (ws.map V.ref))
  s : SeedAt H sd
  base : But [sd] H0 H
  ea : as.length = es.length
  ev : ∀ (i : Nat) (a : Addr) (e : Ev), as[i]? = some a → es[i]? = some e → EvZ (zz sd F C W) H a e
  wa : ws.length = pend.length
  pv : ∀ (i : Nat) (a : Addr) (p : Pend), ws[i]? = some a → pend[i]? = some p → EvZ (zz sd F C W) H a p.ev
  cnt : CntAt kvs (rsOf nodes es).sends
  kl : kvs.length ≤ es.length
  pl : pend.length ≤ 12 * es.length
section
variable {H0 H H' : Hp} {sd F C W : Addr} {nodes : List Str} {es : List Ev} {as : List Addr} {pend : List Pend} {ws : List Addr} {kvs : List (Key × V)}
theorem But.base (Q : Four H0 sd F C W) (b0 : But [sd] H0 H) (b : But (zz sd F C W) H H') : But [sd] H0 H' := fun a x ha e => by
  refine b a x (fun z => ?_) (b0 a x ha e)
  simp only [zz, List.mem_cons, List.not_mem_nil, or_false] at z ha
  rcases z with z | z | z | z
  · exact ha z
  · rw [z, Q.nF] at e; cases e
  · rw [z, Q.nC] at e; cases e
  · rw [z, Q.nW] at e; cases e
/-- the heap moves, the four as they were (the seed may differ) -/
theorem LInv.move (Q : Four H0 sd F C W) (I : LInv H0 H sd F C W nodes es as pend ws kvs) (b : But (zz sd F C W) H H') (hF : H' F = H F) (hC : H' C = H C) (hW : H' W = H W) (hs : SeedAt H' sd) : LInv H0 H' sd F C W nodes es as pend ws kvs :=
  ⟨I.m, hF.trans I.f, hC.trans I.c, hW.trans I.w, hs, But.base Q I.base b, I.ea, fun i a e h1 h2 => (I.ev i a e h1 h2).but b, I.wa, fun i a p h1 h2 => (I.pv i a p h1 h2).but b, I.cnt, I.kl, I.pl⟩
theorem LInv.new (Q : Four H0 sd F C W) (I : LInv H0 H sd F C W nodes es as pend ws kvs) {T : Addr} {o : HO} (h : H T = none) : LInv H0 (upd H T o) sd F C W nodes es as pend ws kvs :=
  I.move Q (fun a x _ e => (upd_ne (ne_of_none e h)).trans e) (upd_ne (ne_of_none I.f h)) (upd_ne (ne_of_none I.c h)) (upd_ne (ne_of_none I.w h)) (by
    obtain ⟨x, y, z, h1, h2⟩ := I.s
    exact ⟨x, y, z, (upd_ne (ne_of_none h1 h)).trans h1, h2⟩)
theorem LInv.seed (Q : Four H0 sd F C W) (I : LInv H0 H sd F C W nodes es as pend ws kvs) (hs : SeedAt H' sd) (h : ∀ b, b ≠ sd → H' b = H b) : LInv H0 H' sd F C W nodes es as pend ws kvs :=
  I.move Q (fun a x ha e => (h a fun z => ha (by rw [z]; simp)).trans e) (h _ Q.fs) (h _ Q.cs) (h _ Q.ws) hs
/-- a tracked object that is none of the four -/
theorem LInv.apart (Q : Four H0 sd F C W) (I : LInv H0 H sd F C W nodes es as pend ws kvs) {T : Addr} (h : H T = none) : T ∉ zz sd F C W := by
  simp only [zz, List.mem_cons, List.not_mem_nil, or_false]
  rintro (z | z | z | z)
  · obtain ⟨x, y, z', h1, h2⟩ := I.s
    rw [z, h1] at h; cases h
  · rw [z, I.f] at h; cases h
  · rw [z, I.c] at h; cases h
  · rw [z, I.w] at h; cases h
theorem cnt_send {x : Str} {rs : List Str} (h : CntAt kvs (rsOf nodes es).sends) : CntAt (putK kvs (.inr x) (.int (((rsOf nodes es).sends x).length + 1 : Nat))) (rsOf nodes (es ++ [.snd x rs])).sends := fun y => by
  rw [valV_put, rsOf_snoc]
  show _ = if (if y = x then (rsOf nodes es).sends x ++ [es.length] else (rsOf nodes es).sends y).length = 0 then none else some (V.int (((if y = x then (rsOf nodes es).sends x ++ [es.length] else (rsOf nodes es).sends y).length : Nat) : Int))
  by_cases c : y = x
  · subst c
    rw [if_pos rfl, if_pos rfl, if_neg (by simp)]
    simp
  · rw [if_neg (fun z => c (Sum.inr.inj z)), if_neg c]
    exact h y
/-- a send is counted, appended, its opens wait -/
theorem LInv.send {x : Str} {rs : List Str} {a : Addr} {ps : List Addr} (Q : Four H0 sd F C W) (I : LInv H0 H sd F C W nodes es as pend ws kvs) (hx : x ∈ nodes) (hr : recvB nodes x rs = true) (hnd : rs.Nodup) (hl : rs.length ≤ 12) (b : But (zz sd F C W) H H')
    (hF : H' F = some (.lst ((as ++ [a]).map V.ref))) (hC : H' C = some (.dK (putK kvs (.inr x) (.int (((rsOf nodes es).sends x).length + 1 : Nat))))) (hW : H' W = some (.lst ((ws ++ ps).map V.ref))) (hs : SeedAt H' sd)
    (ha : EvZ (zz sd F C W) H' a (.snd x rs)) (hp : ps.length = rs.length) (hpe : ∀ (i : Nat) (p : Addr) (r : Str), ps[i]? = some p → rs[i]? = some r → EvZ (zz sd F C W) H' p (.opn r x (((rsOf nodes es).sends x).length + 1 : Nat))) :
    LInv H0 H' sd F C W nodes (es ++ [.snd x rs]) (as ++ [a]) (pend ++ newPend nodes es x rs) (ws ++ ps) (putK kvs (.inr x) (.int (((rsOf nodes es).sends x).length + 1 : Nat))) := by
  have nl : (newPend nodes es x rs).length = rs.length := List.length_map ..
  refine ⟨I.m.send hx hr hnd, hF, hC, hW, hs, But.base Q I.base b, by simp [I.ea], fun i c e h1 h2 => ?_, by simp [I.wa, nl, hp], fun i c p h1 h2 => ?_, cnt_send I.cnt, ?_, ?_⟩
  · by_cases k : i < es.length
    · rw [List.getElem?_append_left (by rw [I.ea]; exact k)] at h1
      rw [List.getElem?_append_left k] at h2
      exact (I.ev i c e h1 h2).but b
    · rw [List.getElem?_append_right (by rw [I.ea]; omega), I.ea] at h1
      rw [List.getElem?_append_right (by omega)] at h2
      have : i - es.length = 0 := by
        have := (List.getElem?_eq_some_iff.mp h2).1
        simp at this
        omega
      rw [this] at h1 h2
      cases h1
      cases h2
      exact ha
  · by_cases k : i < pend.length
    · rw [List.getElem?_append_left (by rw [I.wa]; exact k)] at h1
      rw [List.getElem?_append_left k] at h2
      exact (I.pv i c p h1 h2).but b
    · rw [List.getElem?_append_right (by rw [I.wa]; omega), I.wa] at h1
      rw [List.getElem?_append_right (by omega)] at h2
      unfold newPend at h2
      rw [List.getElem?_map] at h2
      obtain ⟨r, hr1, rfl⟩ := Option.map_eq_some_iff.mp h2
      exact hpe _ c r h1 hr1
  · have := length_putK kvs (.inr x) (.int (((rsOf nodes es).sends x).length + 1 : Nat))
    have := I.kl
    rw [List.length_append]
    show _ ≤ es.length + 1
    omega
  · have := I.pl
    simp [nl]
    omega
theorem LInv.rev (Q : Four H0 sd F C W) (I : LInv H0 H sd F C W nodes es as pend ws kvs) : LInv H0 (upd H W (.lst (ws.reverse.map V.ref))) sd F C W nodes es as pend.reverse ws.reverse kvs := by
  have b : But (zz sd F C W) H (upd H W (.lst (ws.reverse.map V.ref))) := But.put (by simp [zz])
  refine ⟨I.m.rev, (upd_ne Q.fw).trans I.f, (upd_ne Q.cw).trans I.c, upd_same, ?_, But.base Q I.base b, I.ea, fun i a e h1 h2 => (I.ev i a e h1 h2).but b, by simp [I.wa], fun i a p h1 h2 => ?_, I.cnt, I.kl, by simpa using I.pl⟩
  · obtain ⟨x, y, z, h1, h2⟩ := I.s
    exact ⟨x, y, z, (upd_ne (Ne.symm Q.ws)).trans h1, h2⟩
  · have l1 := (List.getElem?_eq_some_iff.mp h1).1
    have l2 := (List.getElem?_eq_some_iff.mp h2).1
    rw [List.length_reverse] at l1 l2
    rw [List.getElem?_reverse l1] at h1
    rw [List.getElem?_reverse l2] at h2
    rw [I.wa] at h1
    exact (I.pv _ a p h1 h2).but b
theorem LInv.open (Q : Four H0 sd F C W) (I : LInv H0 H sd F C W nodes es as pend ws kvs) (h0 : pend ≠ []) : ∃ (p : Pend) (a : Addr) (ps : List Pend) (wr : List Addr), pend = ps ++ [p] ∧ ws = wr ++ [a] ∧
    LInv H0 (upd (upd H W (.lst (wr.map V.ref))) F (.lst ((as ++ [a]).map V.ref))) sd F C W nodes (es ++ [p.ev]) (as ++ [a]) ps wr kvs := by
  obtain ⟨ps, p, rfl⟩ : ∃ ps p, pend = ps ++ [p] := ⟨pend.dropLast, pend.getLast h0, (List.dropLast_concat_getLast h0).symm⟩
  have hw0 : ws ≠ [] := fun z => by
    have := I.wa
    rw [z] at this
    simp at this
  obtain ⟨wr, a, rfl⟩ : ∃ wr a, ws = wr ++ [a] := ⟨ws.dropLast, ws.getLast hw0, (List.dropLast_concat_getLast hw0).symm⟩
  have hl : wr.length = ps.length := by
    have := I.wa
    simpa using this
  refine ⟨p, a, ps, wr, rfl, rfl, ?_⟩
  have b : But (zz sd F C W) H (upd (upd H W (.lst (wr.map V.ref))) F (.lst ((as ++ [a]).map V.ref))) := (But.put (by simp [zz])).trans (But.put (by simp [zz]))
  have pa : EvZ (zz sd F C W) H a p.ev := I.pv wr.length a p (by simp) (by rw [hl]; simp)
  refine ⟨I.m.open, upd_same, (upd_ne (Ne.symm Q.fc)).trans ((upd_ne Q.cw).trans I.c), (upd_ne (Ne.symm Q.fw)).trans upd_same, ?_, But.base Q I.base b, by simp [I.ea], fun i c e h1 h2 => ?_, hl, fun i c q h1 h2 => ?_, ?_, ?_, ?_⟩
  · obtain ⟨x, y, z, h1, h2⟩ := I.s
    exact ⟨x, y, z, (upd_ne (Ne.symm Q.fs)).trans ((upd_ne (Ne.symm Q.ws)).trans h1), h2⟩
  · by_cases k : i < es.length
    · rw [List.getElem?_append_left (by rw [I.ea]; exact k)] at h1
      rw [List.getElem?_append_left k] at h2
      exact (I.ev i c e h1 h2).but b
    · rw [List.getElem?_append_right (by rw [I.ea]; omega), I.ea] at h1
      rw [List.getElem?_append_right (by omega)] at h2
      have : i - es.length = 0 := by
        have := (List.getElem?_eq_some_iff.mp h2).1
        simp at this
        omega
      rw [this] at h1 h2
      cases h1
      cases h2
      exact pa.but b
  · have l1 := (List.getElem?_eq_some_iff.mp h1).1
    have l2 := (List.getElem?_eq_some_iff.mp h2).1
    exact (I.pv i c q (by rw [List.getElem?_append_left l1]; exact h1) (by rw [List.getElem?_append_left l2]; exact h2)).but b
  · rw [rsOf_snoc]
    exact I.cnt
  · have := I.kl
    simp
    omega
  · have := I.pl
    simp at this ⊢
    omega
end
/-! ### waiting opens as data -/
abbrev pdata (p : Pend) : PyData := .tuple [.str "open", .str p.x, .tuple [.str p.s, .int p.n]]
theorem dp_pend {K : PySem.W.Frag} {H : Hp} {Z : List Addr} : ∀ {ws : List Addr} {pend : List Pend}, ws.length = pend.length → (∀ (i : Nat) (a : Addr) (p : Pend), ws[i]? = some a → pend[i]? = some p → EvZ Z H a p.ev) → DpAll K H (ws.map V.ref) (pend.map pdata)
  | [], [], _, _ => .nil
  | a :: ws, p :: pend, hl, h => by
    obtain ⟨m, _, _, h1, h2⟩ := h 0 a p rfl rfl
    refine .cons (.tup (tpI h1) (.cons (.str _) (.cons (.str _) (.cons (.tup (tpI h2) (.cons (.str _) (.cons (.int _) .nil))) .nil)))) (dp_pend (by simpa using hl) fun i b q k1 k2 => h (i + 1) b q k1 k2)
theorem lay_pend {nodes : List Str} (hn : NodesOk nodes) : ∀ {pend : List Pend}, (∀ p ∈ pend, p.x ∈ nodes ∧ p.s ∈ nodes) → PyData.canLayAll0 (pend.map pdata) = true
  | [], _ => rfl
  | p :: r, h => by
    have h1 := h p List.mem_cons_self
    show (((PyData.canLay0 (.str "open")) && (PyData.canLay0 (.str p.x) && ((PyData.canLay0 (.str p.s) && (true && true)) && true))) && PyData.canLayAll0 (r.map pdata)) = true
    rw [show PyData.canLay0 (.str "open") = true from by decide +kernel, name_strOk (hn.nm _ h1.1), name_strOk (hn.nm _ h1.2), lay_pend hn fun q hq => h q (List.mem_cons_of_mem _ hq)]
    rfl
theorem depth_pend : ∀ (pend : List Pend), PyData.depthAll (pend.map pdata) ≤ 2
  | [] => Nat.zero_le _
  | p :: r => by
    show max 2 (PyData.depthAll (r.map pdata)) ≤ 2
    have := depth_pend r
    omega
theorem shaped_pend {nodes : List Str} {pend : List Pend} (hn : NodesOk nodes) (h : ∀ p ∈ pend, p.x ∈ nodes ∧ p.s ∈ nodes) : SeqAt.shaped (.list (pend.map pdata)) = true := by
  unfold SeqAt.shaped
  rw [show (PyData.list (pend.map pdata)).canLay0 = PyData.canLayAll0 (pend.map pdata) from rfl, lay_pend hn h, show (PyData.list (pend.map pdata)).depth = PyData.depthAll (pend.map pdata) + 1 from rfl, Bool.true_and, decide_eq_true_eq]
  have := depth_pend pend
  omega
theorem pend_in {nodes : List Str} {es : List Ev} {pend : List Pend} (M : MInv nodes es pend) : ∀ p ∈ pend, p.x ∈ nodes ∧ p.s ∈ nodes := fun p hp => by
  obtain ⟨h1, h2, _⟩ := M.good p hp
  obtain ⟨k1, _, _, k4⟩ := sentAt_mem h1
  obtain ⟨_, _, rs, hj, hr⟩ := sends_ok M.ok k4
  rw [recvAt_snd hj] at h2
  exact ⟨(recvB_mem hr h2).1, k1⟩
end KA

set_option Elab.async false
set_option linter.all false
set_option maxRecDepth 100000
set_option maxHeartbeats 16000000
namespace KA
open PySem PySem.Spec PyProof.Rows L2 L2.Dx Kx
section
variable {P : Program} {w : World} {K : PySem.W.Frag} {mg : Str → Option Value} {base : Heap}
def sp__law_seed (K : PySem.W.Frag) : Sp := fun vs H Q _ => ∃ (S : Addr) (ns : List Int) (k : Nat), vs = [.ref S, .int (k : Nat)] ∧ SqL K H S (ns.map V.int) ∧ k ≤ 100 ∧ ∀ H' a, Same H H' → H a = none → SeedAt H' a → Q (.ref a) H'
theorem ok__law_seed (T : Txt K mg) : FnOk P w K mg base CX0 1 T.f__law_seed T.fd__law_seed ["script", "k"] (sp__law_seed K) := by
  refine T.F__law_seed.ok sc__law_seed (fun vs H Q E h => ?_) (fun cdv A outer s H vs Q E hr h => ?_)
  · obtain ⟨S, ns, k, rfl, _⟩ := h
    rfl
  · obtain ⟨S, ns, k, rfl, hS, hk, q⟩ := h
    refine ⟨_, (pss_cons (ps_set (i := 2) sc__law_seed.nd rfl (by first | exact .inl rfl | exact .inr rfl) (pe_ifExp (pt_cmpR op_lt (pv 1) (pe_callB call_len_seq (by rfl) T.m_len PySem.boot_len (pa_cons (pv 0) pa_nil)) (nomark _)) (pe_ix ix_list (pv 0) (pv 1) (fun _ _ => rfl)) pe_int))
    (pss_one (ps_ret (pe_lst (pa_cons (pe_callB (call_max2 rfl) (by rfl) T.m_max (by decide +kernel) (pa_cons pe_int (pa_cons (pe_op op_sub (pv 2) (pe_op op_pow pe_int pe_int)) pa_nil))) (pa_cons (pe_op op_add (pe_op op_mul (pe_op op_add (pe_op op_modN (pv 2) (pe_op op_add (pe_op op_pow pe_int pe_int) pe_int)) pe_int) pe_int) (pv 1)) (pa_cons pe_int pa_nil))))))), ?_⟩
    have go : ∀ c : Int, 0 ≤ (if c - 10 ^ (18 : Int).toNat > 0 then c - 10 ^ (18 : Int).toNat else 0) ∧ 0 ≤ (c.fmod (10 ^ (43 : Int).toNat + 57) + 1) * 1024 + (k : Nat) ∧ ((c.fmod (10 ^ (43 : Int).toNat + 57) + 1) * 1024 + (k : Nat)).natAbs < 2 ^ 200 := fun c => by
      have h1 : 0 ≤ c.fmod (10 ^ (43 : Int).toNat + 57) := by rw [Int.fmod_eq_emod_of_nonneg _ (by decide)]; exact Int.emod_nonneg _ (by decide)
      have h2 : c.fmod (10 ^ (43 : Int).toNat + 57) < 10 ^ (43 : Int).toNat + 57 := by rw [Int.fmod_eq_emod_of_nonneg _ (by decide)]; exact Int.emod_lt_of_pos _ (by decide)
      have h3 : (10 : Int) ^ (43 : Int).toNat + 57 < 2 ^ 150 := by decide
      generalize c.fmod (10 ^ (43 : Int).toNat + 57) = m at h1 h2 ⊢
      refine ⟨by split <;> omega, by omega, by omega⟩
    by_cases hkl : k < ns.length
    · refine ⟨_, rfl, _, rfl, S, _, rfl, .inl hS, (k : Nat), (ns.length : Nat), rfl, by rw [List.length_map], true, ?_, iteT ?_⟩
      · exact congrArg V.bl (decide_eq_true (by omega))
      refine ⟨_, rfl, _, rfl, S, _, _, .int (ns[k]), rfl, rfl, hS, atI_nat (by rw [List.getElem?_map, List.getElem?_eq_getElem hkl]; rfl), ?_⟩
      obtain ⟨g1, g2, g3⟩ := go (ns[k])
      refine ⟨_, rfl, 10, 18, rfl, rfl, ⟨by decide, by decide, by decide⟩, _, _, rfl, rfl, _, _, rfl, ?_⟩
      refine ⟨_, rfl, 10, 43, rfl, rfl, ⟨by decide, by decide, by decide⟩, _, 57, rfl, rfl, _, _, rfl, rfl, by show (10 ^ (43 : Int).toNat + 57 : Int) ≠ 0; decide, ?_⟩
      refine ⟨_, 1, rfl, rfl, _, 1024, rfl, rfl, .inr ⟨by decide, by decide⟩, _, rfl, _, _, rfl, rfl, by show 3 ≤ sizeLine; decide, fun p hp => ?_⟩
      exact q _ p (same_new hp) hp ⟨_, _, 0, upd_same, g1, g2, g3⟩
    · refine ⟨_, rfl, _, rfl, S, _, rfl, .inl hS, (k : Nat), (ns.length : Nat), rfl, by rw [List.length_map], false, ?_, iteF ?_⟩
      · exact congrArg V.bl (decide_eq_false (by omega))
      obtain ⟨g1, g2, g3⟩ := go 0
      refine ⟨.int 0, rfl, 10, 18, rfl, rfl, ⟨by decide, by decide, by decide⟩, _, _, rfl, rfl, _, _, rfl, ?_⟩
      refine ⟨.int 0, rfl, 10, 43, rfl, rfl, ⟨by decide, by decide, by decide⟩, _, 57, rfl, rfl, _, _, rfl, rfl, by show (10 ^ (43 : Int).toNat + 57 : Int) ≠ 0; decide, ?_⟩
      refine ⟨_, 1, rfl, rfl, _, 1024, rfl, rfl, .inr ⟨by decide, by decide⟩, _, rfl, _, _, rfl, rfl, by show 3 ≤ sizeLine; decide, fun p hp => ?_⟩
      exact q _ p (same_new hp) hp ⟨_, _, 0, upd_same, g1, g2, g3⟩
def sp__law_next : Sp := fun vs H Q _ => ∃ (a : Addr) (n : Int), vs = [.ref a, .int n] ∧ SeedAt H a ∧ 1 ≤ n ∧ n < 1073741824 ∧ ∀ H' r, SeedAt H' a → (∀ b, b ≠ a → H' b = H b) → 0 ≤ r → r < n → Q (.int r) H'
theorem ok__law_next (T : Txt K mg) : FnOk P w K mg base CX0 1 T.f__law_next T.fd__law_next ["seed", "size"] sp__law_next := by
  refine T.F__law_next.ok sc__law_next (fun vs H Q E h => ?_) (fun cdv A outer s H vs Q E hr h => ?_)
  · obtain ⟨a, n, rfl, _⟩ := h
    rfl
  · obtain ⟨a, n, rfl, ⟨x, y, z, ha, hx, hy, hy2⟩, hn1, hn2, q⟩ := h
    refine ⟨_, (pss_cons (ps_if (pt_cmpR op_gt (pe_ix ix_list (pv 0) pe_int (fun _ _ => rfl)) pe_int (nomark _))
      (pss_cons (ps_set (i := 2) sc__law_next.nd rfl (by first | exact .inl rfl | exact .inr rfl) (pe_op op_modN (pe_ix ix_list (pv 0) pe_int (fun _ _ => rfl)) (pv 1)))
      (pss_cons (ps_asg (pe_op op_fdivN (pe_ix ix_list (pv 0) pe_int (fun _ _ => rfl)) (pv 1)) (pg_sub (pv 0) pe_int set_list))
      (pss_one (ps_ret (pv 2)))))
      pss_nil)
    (pss_cons (ps_asg (pe_op op_add (pe_ix ix_list (pv 0) pe_int (fun _ _ => rfl)) pe_int) (pg_sub (pv 0) pe_int set_list))
    (pss_cons (ps_set (i := 3) sc__law_next.nd rfl (by first | exact .inl rfl | exact .inr rfl) (pe_op op_modN (pe_op op_add (pe_op op_mulW (pe_ix ix_list (pv 0) pe_int (fun _ _ => rfl)) (pe_ix ix_list (pv 0) pe_int (fun _ _ => rfl))) (pe_op op_mul pe_int (pe_ix ix_list (pv 0) pe_int (fun _ _ => rfl)))) (pe_op op_add (pe_op op_pow pe_int pe_int) pe_int)))
    (pss_cons (ps_set (i := 3) sc__law_next.nd rfl (by first | exact .inl rfl | exact .inr rfl) (pe_op op_modN (pe_op op_add (pe_op op_powW (pv 3) pe_int) pe_int) (pe_op op_add (pe_op op_pow pe_int pe_int) pe_int)))
    (pss_one (ps_ret (pe_op op_modN (pe_op op_fdivN (pv 3) pe_int) (pv 1)))))))), ?_⟩
    have g0 : SqL K H a [.int x, .int y, .int z] := .inl (.inl ha)
    refine ⟨.ref a, rfl, a, _, 0, .int x, rfl, rfl, g0, atI_nat (j := 0) rfl, x, 0, rfl, rfl, _, rfl, ite2 (fun e => ?_) (fun e => ?_)⟩
    · have e1 : 0 < x := of_decide_eq_true e
      refine ⟨.ref a, rfl, a, _, 0, .int x, rfl, rfl, g0, atI_nat (j := 0) rfl, .int n, rfl, x, n, rfl, rfl, by omega, ?_⟩
      refine ⟨.ref a, rfl, a, _, 0, .int x, rfl, rfl, g0, atI_nat (j := 0) rfl, .int n, rfl, x, n, rfl, rfl, ⟨by omega, by omega⟩, ?_⟩
      refine ⟨.ref a, rfl, a, _, 0, 0, rfl, rfl, ha, rfl, ?_⟩
      refine ⟨_, rfl, q _ _ ⟨x.fdiv n, y, z, upd_same, ?_, hy, hy2⟩ (fun b hb => upd_ne hb) ?_ ?_⟩
      · rw [Int.fdiv_eq_ediv_of_nonneg _ (by omega)]; exact Int.ediv_nonneg hx (by omega)
      · rw [Int.fmod_eq_emod_of_nonneg _ (by omega)]; exact Int.emod_nonneg _ (by omega)
      · rw [Int.fmod_eq_emod_of_nonneg _ (by omega)]; exact Int.emod_lt_of_pos _ (by omega)
    · refine ⟨.ref a, rfl, a, _, 2, .int z, rfl, rfl, g0, atI_nat (j := 2) rfl, z, 1, rfl, rfl, ?_⟩
      refine ⟨.ref a, rfl, a, _, 2, 2, rfl, rfl, ha, rfl, ?_⟩
      have ha1 : (upd H a (.lst [.int x, .int y, .int (z + 1)])) a = some (.lst [.int x, .int y, .int (z + 1)]) := upd_same
      have g1 : SqL K (upd H a (.lst [.int x, .int y, .int (z + 1)])) a [.int x, .int y, .int (z + 1)] := .inl (.inl ha1)
      refine ⟨.ref a, rfl, a, _, 1, .int y, rfl, rfl, g1, atI_nat (j := 1) rfl, .ref a, rfl, a, _, 1, .int y, rfl, rfl, g1, atI_nat (j := 1) rfl, y, y, rfl, rfl, wide_mul hy2 hy2 (by decide) (by decide) (by decide), ?_⟩
      refine ⟨.ref a, rfl, a, _, 2, .int (z + 1), rfl, rfl, g1, atI_nat (j := 2) rfl, 982451653, z + 1, rfl, rfl, .inl ⟨by decide, by decide⟩, ?_⟩
      refine ⟨y * y, 982451653 * (z + 1), rfl, rfl, ?_⟩
      refine ⟨10, 45, rfl, rfl, ⟨by decide, by decide, by decide⟩, 10 ^ (45 : Int).toNat, 9, rfl, rfl, ?_⟩
      refine ⟨_, _, rfl, rfl, by show (10 ^ (45 : Int).toNat + 9 : Int) ≠ 0; decide, ?_⟩
      have hst2 : ((y * y + 982451653 * (z + 1)).fmod (10 ^ (45 : Int).toNat + 9)).natAbs < 2 ^ 160 := by
        have h9 : (10 : Int) ^ (45 : Int).toNat + 9 < 2 ^ 160 := by decide
        have h1 : 0 ≤ (y * y + 982451653 * (z + 1)).fmod (10 ^ (45 : Int).toNat + 9) := by
          rw [Int.fmod_eq_emod_of_nonneg _ (by decide)]; exact Int.emod_nonneg _ (by decide)
        have h2 : (y * y + 982451653 * (z + 1)).fmod (10 ^ (45 : Int).toNat + 9) < 10 ^ (45 : Int).toNat + 9 := by
          rw [Int.fmod_eq_emod_of_nonneg _ (by decide)]; exact Int.emod_lt_of_pos _ (by decide)
        omega
      refine ⟨.int ((y * y + 982451653 * (z + 1)).fmod (10 ^ (45 : Int).toNat + 9)), rfl, _, 3, rfl, rfl, wide_pow (by decide) hst2 (by decide) (by decide), _, 776531419, rfl, rfl, ?_⟩
      refine ⟨10, 44, rfl, rfl, ⟨by decide, by decide, by decide⟩, 10 ^ (44 : Int).toNat, 31, rfl, rfl, ?_⟩
      refine ⟨_, _, rfl, rfl, by show (10 ^ (44 : Int).toNat + 31 : Int) ≠ 0; decide, ?_⟩
      refine ⟨_, rfl, _, 524287, rfl, rfl, ⟨by decide, by decide⟩, .int n, rfl, _, n, rfl, rfl, by omega, ?_⟩
      refine q _ _ ⟨x, y, z + 1, upd_same, hx, hy, hy2⟩ (fun b hb => upd_ne hb) ?_ ?_
      · rw [Int.fmod_eq_emod_of_nonneg _ (by omega)]; exact Int.emod_nonneg _ (by omega)
      · rw [Int.fmod_eq_emod_of_nonneg _ (by omega)]; exact Int.emod_lt_of_pos _ (by omega)
end
end KA

set_option Elab.async false
set_option linter.all false
set_option maxRecDepth 100000
set_option maxHeartbeats 4000000
namespace KA
open PySem PySem.Spec PyProof.Rows L2 L2.Dx Kx
/-- [one for one in nodes if one != x] -/
theorem lc_others {K : PySem.W.Frag} {σ : L2.St} {H : Hp} {N D : Addr} {nodes : List Str} {x : Str} {j c : Nat} {Qd : Hp → Prop} (hj : j < σ.length) (hcj : j ≠ c) (hc : σ[c]? = some (some (.str x))) (hN : H N = some (.lst (nodes.map V.str))) (hl : nodes.length ≤ 1000) (hD : H D = none)
    (q : ∀ H' : Hp, (∀ b, b ≠ D → H' b = H b) → H' D = some (.lst ((nodes.filter fun y => decide (y ≠ x)).map V.str)) → Qd H') :
    ∃ W : Nat → Nat → Hp → Prop, (∃ m, W 0 m (upd H D (.lst []))) ∧ ∀ i m H, W i m H →
      ((Itl K N).stop i H ∧ Qd H) ∨ ((Itl K N).go i H ∧ ∃ Nx : Hp → Prop, (∀ H', Nx H' → ∃ m', m' < m ∧ W (i + 1) m' H') ∧ ∀ y H', (Itl K N).yld i H y H' → gName j y (wipe σ [j]) H' fun σ2 H2 => wipe σ2 [j] = wipe σ [j] ∧ tTest (tOp rNe (tVar j) (tVar c)) σ2 H2 fun b H3 =>
        if b = true then tVar j σ2 H3 fun y H4 => ∃ acc, H4 D = some (.lst acc) ∧ acc.length < sizeLine ∧ Nx (upd H4 D (.lst (acc ++ [y]))) else Nx H3) := by
  have nND : N ≠ D := ne_of_none hN hD
  refine lc_list (xs := nodes.map V.str) (fun i H' => (∀ b, b ≠ D → H' b = H b) ∧ H' D = some (.lst (((nodes.take i).filter fun y => decide (y ≠ x)).map V.str))) ⟨fun b hb => upd_ne hb, upd_same⟩ (fun i H' _ ⟨h1, _⟩ => ltI ((h1 _ nND).trans hN)) ?_ ?_
  · rintro i v H' hx ⟨h1, h2⟩
    rw [List.getElem?_map] at hx
    obtain ⟨y, hy, rfl⟩ := Option.map_eq_some_iff.mp hx
    have s1 : ((wipe σ [j]).set j (some (V.str y)))[j]? = some (some (V.str y)) := by
      rw [List.getElem?_set_self]
      rw [wipe_length]
      exact hj
    have s2 : ((wipe σ [j]).set j (some (V.str y)))[c]? = some (some (V.str x)) := by
      rw [List.getElem?_set_ne hcj, wipe_out (by simpa using Ne.symm hcj)]
      exact hc
    refine ⟨by simp [wipe, List.set_set], _, s1, _, s2, rfl, _, rfl, ?_⟩
    by_cases e : y = x
    · rw [show (!decide (V.str y = V.str x)) = false by rw [e]; simp]
      refine iteF ⟨h1, ?_⟩
      rw [h2, take_snoc hy, List.filter_append]
      simp [e]
    · rw [show (!decide (V.str y = V.str x)) = true by simp [e]]
      refine iteT ⟨_, s1, _, h2, ?_, fun b hb => (upd_ne hb).trans (h1 b hb), ?_⟩
      · rw [List.length_map]
        exact small1000 (Nat.le_trans (List.length_filter_le _ _) (Nat.le_trans (List.length_take_le' _ _) hl))
      · rw [upd_same, take_snoc hy, List.filter_append]
        simp [e]
  · rintro H' ⟨h1, h2⟩
    rw [List.length_map, List.take_length] at h2
    exact q H' h1 h2
/-- the receivers drawn: all others, the first, the last two -/
def drawn (r : Nat) (l : List Str) : List Str := if r = 0 then l else if r = 1 then l.take 1 else l.drop (l.length - 2)
theorem drawn_sub (r : Nat) (l : List Str) : (drawn r l).Sublist l := by
  unfold drawn
  split
  · exact List.Sublist.refl l
  · split
    · exact List.take_sublist _ _
    · exact List.drop_sublist _ _
theorem drawn_ne {r : Nat} {l : List Str} (h : l ≠ []) : drawn r l ≠ [] := by
  have h0 : 0 < l.length := List.length_pos_iff.mpr h
  intro z
  have : (drawn r l).length = 0 := by rw [z]; rfl
  unfold drawn at this
  split at this
  · omega
  · split at this
    · rw [List.length_take] at this
      omega
    · rw [List.length_drop] at this
      omega
theorem others_ne {nodes : List Str} {x : Str} (hn : NodesOk nodes) : (nodes.filter fun y => decide (y ≠ x)) ≠ [] := by
  have hlo := hn.lo
  have nd := hn.nodup
  obtain ⟨a, b, r, rfl⟩ : ∃ a b r, nodes = a :: b :: r := by
    match nodes, hlo with
    | a :: b :: r, _ => exact ⟨a, b, r, rfl⟩
  have hab : a ≠ b := by
    intro e
    subst e
    simp at nd
  by_cases e : a = x
  · have : b ∈ ((a :: b :: r).filter fun y => decide (y ≠ x)) := by
      rw [List.mem_filter]
      exact ⟨by simp, by rw [decide_eq_true_eq]; rw [← e]; exact Ne.symm hab⟩
    exact List.ne_nil_of_mem this
  · have : a ∈ ((a :: b :: r).filter fun y => decide (y ≠ x)) := by
      rw [List.mem_filter]
      exact ⟨by simp, by rw [decide_eq_true_eq]; exact e⟩
    exact List.ne_nil_of_mem this
theorem cut_take1 (xs : List V) : cutV xs none (some 1) = xs.take 1 := by
  unfold cutV
  rw [HT.sIx_none, show HT.sIx xs.length xs.length (some 1) = min 1 xs.length from HT.sIx_nat xs.length xs.length 1]
  simp [List.take_take]
theorem cut_last2 (xs : List V) : cutV xs (some (-2)) none = xs.drop (xs.length - 2) := by
  unfold cutV
  rw [HT.sIx_none, show HT.sIx xs.length 0 (some (-2)) = xs.length - 2 by
    show (if (-2 : Int) < 0 then ((-2 : Int) + (xs.length : Int)).toNat else min (-2 : Int).toNat xs.length) = _
    rw [if_pos (by decide)]
    omega]
  refine List.take_of_length_le ?_
  rw [List.length_drop]
  omega
end KA

set_option Elab.async false
set_option linter.all false
set_option maxRecDepth 100000
set_option maxHeartbeats 16000000
namespace KA
open PySem PySem.Spec PyProof.Rows L2 L2.Dx Kx
section
variable {P : Program} {w : World} {K : PySem.W.Frag} {mg : Str → Option Value} {base : Heap}
def sp__law_large : Sp := fun vs H Q _ => ∃ (sd N : Addr) (nodes : List Str) (many : Nat), vs = [.ref sd, .ref N, .int (many : Nat)] ∧ SeedAt H sd ∧ N ≠ sd ∧ H N = some (.lst (nodes.map V.str)) ∧ NodesOk nodes ∧ many ≤ 500 ∧
  ∀ (H' : Hp) (R : Addr) (as : List Addr) (es : List Ev), But [sd] H H' → SeedAt H' sd → H R = none → RunAt H' R as es → es.length = many → RunOk nodes es → R ≠ sd → Q (.ref R) H'
theorem ok__law_large (T : Txt K mg) : FnOk P w K mg base CX0 2 T.f__law_large T.fd__law_large ["seed", "nodes", "many"] sp__law_large := by
  refine T.F__law_large.ok sc__law_large (fun vs H Q E h => ?_) (fun cdv A outer s H vs Q E hr h => ?_)
  · obtain ⟨sd, N, nodes, many, rfl, _⟩ := h
    rfl
  · obtain ⟨sd, N, nodes, many, rfl, hS, hNs, hN, hn, hm, q⟩ := h
    refine ⟨_, (pss_cons (ps_asg (pe_tup (pa_cons (pe_lst pa_nil) (pa_cons pe_dnewK (pa_cons (pe_lst pa_nil) pa_nil)))) (pg_tup rfl (pgs_cons (pg_name (i := 3) sc__law_large.nd rfl (by first | exact .inl rfl | exact .inr rfl)) (pgs_cons (pg_name (i := 4) sc__law_large.nd rfl (by first | exact .inl rfl | exact .inr rfl)) (pgs_cons (pg_name (i := 5) sc__law_large.nd rfl (by first | exact .inl rfl | exact .inr rfl)) pgs_nil)))))
    (pss_cons (ps_while PassesOwn.never (pt_cmpR op_lt (pe_callB call_len_seq (by rfl) T.m_len PySem.boot_len (pa_cons (pv 3) pa_nil)) (pv 2) (nomark _))
      (pss_cons (ps_set (i := 6) sc__law_large.nd rfl (by first | exact .inl rfl | exact .inr rfl) (pe_ix ix_list (pv 1) (pe_call (ok__law_next T) (hr.mono (by decide)) rfl T.M__law_next T.F__law_next.kp (b__law_next T) .nil pass0 (pa_cons (pv 0) (pa_cons (pe_callB call_len_seq (by rfl) T.m_len PySem.boot_len (pa_cons (pv 1) pa_nil)) pa_nil))) (fun _ _ => rfl)))
      (pss_cons (ps_setLc (i := 7) (own := [("one", 9)]) rfl sc__law_large.nd rfl rfl (sw_true rfl rfl rfl (by decide +kernel)) (pi_list (pv 1)) (blkOk_by (N := ["seed", "nodes", "many", "found", "counts", "waiting", "node", "others", "receivers", "one"]) (sc := defScope s__law_large) (by decide +kernel)) (fun _ _ _ _ _ => (pg_name (i := 9) sc__law_large.nd rfl (by first | exact .inl rfl | exact .inr rfl))) (fun _ _ _ _ _ => (pts_one (pt_cmpR op_ne (pv 9) (pv 6) (nomark _)))) (fun _ _ _ _ _ => (pv 9)))
      (pss_cons (ps_set (i := 8) sc__law_large.nd rfl (by first | exact .inl rfl | exact .inr rfl) (pe_ix ix_list (pe_lst (pa_cons (pv 7) (pa_cons (pe_slice sl_list (pv 7) po_none (po_some pe_int)) (pa_cons (pe_slice sl_list (pv 7) (po_some (pe_un un_neg pe_int)) po_none) pa_nil)))) (pe_call (ok__law_next T) (hr.mono (by decide)) rfl T.M__law_next T.F__law_next.kp (b__law_next T) .nil pass0 (pa_cons (pv 0) (pa_cons pe_int pa_nil))) (fun _ _ => rfl)))
      (pss_cons (ps_dput (hu_of hr) (pv 4) (pv 6) (pe_op op_add (pe_dget2 (hu_of hr) (pv 4) (pv 6) pe_int ⟨rfl, rfl, rfl, rfl⟩) pe_int) rfl)
      (pss_cons (ps_expr (pe_bm PySem.F.plainAttrs_list PySem.F.slot_list_append PySem.F.type_list_append mt_append (pv 3) (pa_cons (pe_tup (pa_cons pe_str (pa_cons (pv 6) (pa_cons (pv 8) pa_nil)))) pa_nil)))
      (pss_cons (ps_expr (pe_bm PySem.F.plainAttrs_list PySem.F.slot_list_extend PySem.F.type_list_extend mt_extend (pv 5) (pa_cons (pe_lc (own := [("one", 9)]) rfl sc__law_large.nd (pi_list (pv 8)) (blkOk_by (N := ["seed", "nodes", "many", "found", "counts", "waiting", "node", "others", "receivers", "one"]) (sc := defScope s__law_large) (by decide +kernel)) (fun _ _ _ _ _ => (pg_name (i := 9) sc__law_large.nd rfl (by first | exact .inl rfl | exact .inr rfl))) (fun _ _ _ _ _ => pts_nil) (fun _ _ _ _ _ => (pe_tup (pa_cons pe_str (pa_cons (pv 9) (pa_cons (pe_tup (pa_cons (pv 6) (pa_cons (pe_dget (hu_of hr) (pv 4) (pv 6) (fun _ _ => rfl)) pa_nil))) pa_nil)))))) pa_nil)))
      (pss_cons (ps_if (pt_cmpR op_eq (pe_call (ok__law_next T) (hr.mono (by decide)) rfl T.M__law_next T.F__law_next.kp (b__law_next T) .nil pass0 (pa_cons (pv 0) (pa_cons pe_int pa_nil))) pe_int (nomark _))
        (pss_one (ps_expr (pe_bm0 PySem.F.plainAttrs_list PySem.F.slot_list_reverse PySem.F.type_list_reverse mt_reverse (pv 5))))
        pss_nil)
      (pss_one (ps_while PassesOwn.never (PW.pt (pw_and (pt_cmpR (op_neD hr.units) (pv 5) (pe_lst pa_nil) (nomark _)) (pw_and (pt_cmpR op_lt (pe_callB call_len_seq (by rfl) T.m_len PySem.boot_len (pa_cons (pv 3) pa_nil)) (pv 2) (nomark _)) (pw_and1 (pt_cmpR op_gt (pe_call (ok__law_next T) (hr.mono (by decide)) rfl T.M__law_next T.F__law_next.kp (b__law_next T) .nil pass0 (pa_cons (pv 0) (pa_cons pe_int pa_nil))) pe_int (nomark _))))))
        (pss_one (ps_expr (pe_bm PySem.F.plainAttrs_list PySem.F.slot_list_append PySem.F.type_list_append mt_append (pv 3) (pa_cons (pe_bm0 PySem.F.plainAttrs_list PySem.F.slot_list_pop PySem.F.type_list_pop mt_pop (pv 5)) pa_nil))))))))))))))
    (pss_one (ps_ret (pv 3))))), ?_⟩
    have n12 := hn.hi
    have n2 := hn.lo
    -- found, counts, waiting
    refine ⟨Nat.zero_le _, fun F hF => fun C hC => ⟨Nat.zero_le _, fun W hW => ⟨by show 3 ≤ sizeLine; decide, fun Tp hT => ⟨Tp, _, rfl, tpI upd_same, rfl, _, _, rfl, _, _, rfl, _, _, rfl, rfl, ?_⟩⟩⟩⟩
    have nFC : F ≠ C := ne_of_none upd_same hC
    have nFW : F ≠ W := ne_of_none ((upd_ne nFC).trans upd_same) hW
    have nCW : C ≠ W := ne_of_none upd_same hW
    have s1 : Same H (upd H F (.lst [])) := same_new hF
    have s2 : Same H (upd (upd H F (.lst [])) C (.dK [])) := s1.trans (same_new hC)
    have s3 : Same H (upd (upd (upd H F (.lst [])) C (.dK [])) W (.lst [])) := s2.trans (same_new hW)
    have hsd : ∀ {a : Addr}, H a = none → a ≠ sd := fun {a} h z => by
      obtain ⟨x, y, z', h1, _⟩ := hS
      rw [z, h1] at h
      cases h
    have QQ : Four H sd F C W := ⟨hF, s1.free hC, s2.free hW, hsd hF, hsd (s1.free hC), hsd (s2.free hW), nFC, nFW, nCW⟩
    have hNk : ∀ {H' : Hp}, But [sd] H H' → H' N = some (.lst (nodes.map V.str)) := fun b => b _ _ (by simpa using hNs) hN
    have I0 : LInv H (upd (upd (upd (upd H F (.lst [])) C (.dK [])) W (.lst [])) Tp (.tup [.ref F, .ref C, .ref W])) sd F C W nodes [] [] [] [] [] := by
      have t1 := same_new (o := .tup [.ref F, .ref C, .ref W]) hT
      refine ⟨⟨fun i hi => absurd hi (Nat.not_lt_zero _), List.nodup_nil, fun p hp => by cases hp⟩, ?_, ?_, ?_, ?_, But.same (s3.trans t1), rfl, fun i a e h1 => by simp at h1, rfl, fun i a p h1 => by simp at h1, fun x => rfl, Nat.le_refl _, Nat.le_refl _⟩
      · exact t1 _ _ ((upd_ne nFW).trans ((upd_ne nFC).trans upd_same))
      · exact t1 _ _ ((upd_ne nCW).trans upd_same)
      · exact t1 _ _ upd_same
      · obtain ⟨x, y, z, h1, h2⟩ := hS
        exact ⟨x, y, z, t1 _ _ (s3 _ _ h1), h2⟩
    generalize upd (upd (upd (upd H F (.lst [])) C (.dK [])) W (.lst [])) Tp (.tup [.ref F, .ref C, .ref W]) = H1 at I0 ⊢
    clear hT s1 s2 s3 hF hC hW
    refine ⟨fun m σ H' => ∃ es as pend ws kvs y6 y7 y8 y9, m = many - es.length ∧ es.length ≤ many ∧ LInv H H' sd F C W nodes es as pend ws kvs ∧ σ = [some (.ref sd), some (.ref N), some (.int (many : Nat)), some (.ref F), some (.ref C), some (.ref W), y6, y7, y8, y9],
      ⟨_, [], [], [], [], [], none, none, none, none, rfl, Nat.zero_le _, I0, rfl⟩, ?_⟩
    rintro m σ H2 ⟨es, as, pend, ws, kvs, y6, y7, y8, y9, rfl, hle, I, rfl⟩
    refine ⟨.ref F, rfl, F, _, rfl, .inl (ltI I.f), .int (many : Nat), rfl, _, _, rfl, rfl, _, rfl, ?_⟩
    have hal : (as.map V.ref).length = es.length := by rw [List.length_map, I.ea]
    rw [hal]
    by_cases hlt : es.length < many
    case neg =>
      rw [decide_eq_false (by omega)]
      refine iteF ⟨.ref F, rfl, ?_⟩
      exact q H2 F as es I.base I.s QQ.nF ⟨I.f, I.ea, fun i a e h1 h2 => (I.ev i a e h1 h2).at'⟩ (by omega) I.m.ok QQ.fs
    rw [decide_eq_true (by omega)]
    refine iteT ⟨fun σ' H' => ∃ m', m' < many - es.length ∧ ∃ es as pend ws kvs y6 y7 y8 y9, m' = many - es.length ∧ es.length ≤ many ∧ LInv H H' sd F C W nodes es as pend ws kvs ∧ σ' = [some (.ref sd), some (.ref N), some (.int (many : Nat)), some (.ref F), some (.ref C), some (.ref W), y6, y7, y8, y9], fun σ' H' h => h, ?_⟩
    -- node
    have hN2 := hNk I.base
    refine ⟨.ref N, rfl, .ref sd, rfl, .ref N, rfl, N, _, rfl, .inl (ltI hN2), sd, _, rfl, I.s, by rw [List.length_map]; omega, by rw [List.length_map]; omega, fun H3 r hs3 hb3 hr0 hr1 => ?_⟩
    rw [List.length_map] at hr1
    have I3 := I.seed QQ hs3 hb3
    clear I hs3 hb3
    have hN3 := hNk I3.base
    obtain ⟨nr, hnr⟩ : ∃ nr : Nat, r = (nr : Int) := ⟨r.toNat, by omega⟩
    subst hnr
    have hnl : nr < nodes.length := by omega
    obtain ⟨x, hx⟩ : ∃ x, nodes[nr]? = some x := ⟨_, List.getElem?_eq_getElem hnl⟩
    have hxn := List.mem_of_getElem? hx
    refine ⟨N, _, _, .str x, rfl, rfl, ltI hN3, atI_nat (by rw [List.getElem?_map, hx]; rfl), ?_⟩
    -- others
    refine ⟨.ref N, rfl, N, rfl, ⟨_, ltI hN3⟩, fun D hD => lc_others (x := x) (show 9 < 10 by decide) (by decide) rfl hN3 (by omega) hD fun H4 hb4 hD4 => ?_⟩
    have I4 : LInv H H4 sd F C W nodes es as pend ws kvs := by
      refine I3.move QQ (fun a v ha e => (hb4 a (ne_of_none e hD)).trans e) (hb4 _ (ne_of_none I3.f hD)) (hb4 _ (ne_of_none I3.c hD)) (hb4 _ (ne_of_none I3.w hD)) ?_
      obtain ⟨a, b, c, h1, h2⟩ := I3.s
      exact ⟨a, b, c, (hb4 _ (ne_of_none h1 hD)).trans h1, h2⟩
    have DZ : D ∉ zz sd F C W := I3.apart QQ hD
    clear hb4
    generalize hos : (nodes.filter fun y => decide (y ≠ x)) = os at hD4
    have hosne : os ≠ [] := by rw [← hos]; exact others_ne hn
    have hossub : os.Sublist nodes := by rw [← hos]; exact List.filter_sublist
    have hosx : ∀ r ∈ os, r ≠ x := fun r hr => by
      rw [← hos, List.mem_filter] at hr
      simpa using hr.2
    have hosl : os.length ≤ 12 := Nat.le_trans hossub.length_le n12
    -- receivers
    refine ⟨.ref D, rfl, .ref D, rfl, 1, rfl, D, _, rfl, ltI hD4, fun D1 hD1 => ?_⟩
    have I5 := I4.new QQ (o := .lst (cutV (os.map V.str) none (some 1))) hD1
    have D1Z := I4.apart QQ hD1
    have hD5 : (upd H4 D1 (.lst (cutV (os.map V.str) none (some 1)))) D = some (.lst (os.map V.str)) := (upd_ne (ne_of_none hD4 hD1)).trans hD4
    have hE5 : (upd H4 D1 (.lst (cutV (os.map V.str) none (some 1)))) D1 = some (.lst ((os.take 1).map V.str)) := by rw [upd_same, cut_take1, List.map_take]
    generalize upd H4 D1 (.lst (cutV (os.map V.str) none (some 1))) = H5 at I5 hD5 hE5 ⊢
    refine ⟨.ref D, rfl, 2, rfl, -2, rfl, D, _, rfl, ltI hD5, fun D2 hD2 => ?_⟩
    have I6 := I5.new QQ (o := .lst (cutV (os.map V.str) (some (-2)) none)) hD2
    have D2Z := I5.apart QQ hD2
    have hD6 : (upd H5 D2 (.lst (cutV (os.map V.str) (some (-2)) none))) D = some (.lst (os.map V.str)) := (upd_ne (ne_of_none hD5 hD2)).trans hD5
    have hE6 : (upd H5 D2 (.lst (cutV (os.map V.str) (some (-2)) none))) D1 = some (.lst ((os.take 1).map V.str)) := (upd_ne (ne_of_none hE5 hD2)).trans hE5
    have hG6 : (upd H5 D2 (.lst (cutV (os.map V.str) (some (-2)) none))) D2 = some (.lst ((os.drop (os.length - 2)).map V.str)) := by rw [upd_same, cut_last2, List.map_drop, List.length_map]
    generalize upd H5 D2 (.lst (cutV (os.map V.str) (some (-2)) none)) = H6 at I6 hD6 hE6 hG6 ⊢
    refine ⟨by show 3 ≤ sizeLine; decide, fun L hL => ?_⟩
    have I7 := I6.new QQ (o := .lst [.ref D, .ref D1, .ref D2]) hL
    have LZ := I6.apart QQ hL
    have hD7 : (upd H6 L (.lst [.ref D, .ref D1, .ref D2])) D = some (.lst (os.map V.str)) := (upd_ne (ne_of_none hD6 hL)).trans hD6
    have hE7 : (upd H6 L (.lst [.ref D, .ref D1, .ref D2])) D1 = some (.lst ((os.take 1).map V.str)) := (upd_ne (ne_of_none hE6 hL)).trans hE6
    have hG7 : (upd H6 L (.lst [.ref D, .ref D1, .ref D2])) D2 = some (.lst ((os.drop (os.length - 2)).map V.str)) := (upd_ne (ne_of_none hG6 hL)).trans hG6
    have hL7 : (upd H6 L (.lst [.ref D, .ref D1, .ref D2])) L = some (.lst [.ref D, .ref D1, .ref D2]) := upd_same
    generalize upd H6 L (.lst [.ref D, .ref D1, .ref D2]) = H7 at I7 hD7 hE7 hG7 hL7 ⊢
    have zsd : ∀ {a : Addr}, a ∉ zz sd F C W → a ≠ sd := fun {a} h z => h (by rw [z]; simp)
    refine ⟨.ref sd, rfl, sd, 3, rfl, I7.s, by decide, by decide, fun H8 r8 hs8 hb8 hr80 hr81 => ?_⟩
    have I8 := I7.seed QQ hs8 hb8
    have hL8 := (hb8 L (zsd LZ)).trans hL7
    obtain ⟨l, kr, hkr, hl8, lZ, hat⟩ : ∃ (l : Addr) (kr : Nat), kr < 3 ∧ H8 l = some (.lst ((drawn kr os).map V.str)) ∧ l ∉ zz sd F C W ∧ atI [V.ref D, .ref D1, .ref D2] r8 = some (.ref l) := by
      have : r8 = 0 ∨ r8 = 1 ∨ r8 = 2 := by omega
      rcases this with e | e | e
      · exact ⟨D, 0, by decide, (hb8 D (zsd DZ)).trans hD7, DZ, by rw [e]; rfl⟩
      · exact ⟨D1, 1, by decide, (hb8 D1 (zsd D1Z)).trans hE7, D1Z, by rw [e]; rfl⟩
      · exact ⟨D2, 2, by decide, (hb8 D2 (zsd D2Z)).trans hG7, D2Z, by rw [e]; rfl⟩
    refine ⟨L, _, r8, .ref l, rfl, rfl, ltI hL8, hat, ?_⟩
    generalize hrs : drawn kr os = rs at hl8
    have rsub : rs.Sublist nodes := by rw [← hrs]; exact (drawn_sub kr os).trans hossub
    have rsx : ∀ r ∈ rs, r ≠ x := fun r hr => hosx r (by rw [← hrs] at hr; exact (drawn_sub kr os).subset hr)
    have hrb : recvB nodes x rs = true := recvB_sub hn rsub (by rw [← hrs]; exact drawn_ne hosne) rsx
    have rnd : rs.Nodup := hn.nodup.sublist rsub
    have rl : rs.length ≤ 12 := Nat.le_trans rsub.length_le n12
    clear I3 I4 I5 I6 I7 hD4 hD5 hD6 hD7 hE5 hE6 hE7 hG6 hG7 hL7 hL8 hat hb8 hs8 hL hD hD1 hD2
    -- counts
    have hcnt : (valV kvs (.inr x)).getD (.int 0) = .int (((rsOf nodes es).sends x).length : Nat) := by
      rw [I8.cnt x]
      by_cases c : ((rsOf nodes es).sends x).length = 0
      · rw [if_pos c, c]
        rfl
      · rw [if_neg c]
        rfl
    have hkl : kvs.length < sizeLine := small1000 (by have := I8.kl; omega)
    refine ⟨.ref C, rfl, C, rfl, .inl ⟨_, .inl I8.c⟩, .str x, rfl, _, DGet.k (k := Sum.inr x) I8.c, _, 1, hcnt, rfl, .ref C, rfl, .str x, rfl, C, _, rfl, DPut.k (k := Sum.inr x) I8.c hkl, ?_⟩
    have b9 : But (zz sd F C W) H8 (upd H8 C (.dK (putK kvs (Sum.inr x) (.int ((((rsOf nodes es).sends x).length : Nat) + 1))))) := But.put (by simp [zz])
    have F9 : (upd H8 C (.dK (putK kvs (Sum.inr x) (.int ((((rsOf nodes es).sends x).length : Nat) + 1))))) F = some (.lst (as.map V.ref)) := (upd_ne QQ.fc).trans I8.f
    have W9 : (upd H8 C (.dK (putK kvs (Sum.inr x) (.int ((((rsOf nodes es).sends x).length : Nat) + 1))))) W = some (.lst (ws.map V.ref)) := (upd_ne (Ne.symm QQ.cw)).trans I8.w
    have C9 : (upd H8 C (.dK (putK kvs (Sum.inr x) (.int ((((rsOf nodes es).sends x).length : Nat) + 1))))) C = some (.dK (putK kvs (Sum.inr x) (.int ((((rsOf nodes es).sends x).length : Nat) + 1)))) := upd_same
    have S9 : SeedAt (upd H8 C (.dK (putK kvs (Sum.inr x) (.int ((((rsOf nodes es).sends x).length : Nat) + 1))))) sd := by
      obtain ⟨a, b, c, h1, h2⟩ := I8.s
      exact ⟨a, b, c, (upd_ne (Ne.symm QQ.cs)).trans h1, h2⟩
    have ecn : (((rsOf nodes es).sends x).length : Nat) + (1 : Int) = ((((rsOf nodes es).sends x).length + 1 : Nat) : Int) := by omega
    generalize hkv : putK kvs (Sum.inr x) (.int ((((rsOf nodes es).sends x).length : Nat) + 1)) = kv1 at b9 F9 W9 C9 S9 ⊢
    rw [ecn] at hkv
    have hcv : valV kv1 (.inr x) = some (.int ((((rsOf nodes es).sends x).length + 1 : Nat) : Int)) := by rw [← hkv, valV_put, if_pos rfl]
    generalize upd H8 C (.dK kv1) = H9 at b9 F9 W9 C9 S9 ⊢
    -- found
    refine ⟨.ref F, rfl, .inl ⟨rfl, _, .inl (.inl F9)⟩, .str x, rfl, .ref l, rfl, by show 3 ≤ sizeLine; decide, fun t ht => ?_⟩
    have tZ : t ∉ zz sd F C W := by
      simp only [zz, List.mem_cons, List.not_mem_nil, or_false]
      rintro (z | z | z | z)
      · obtain ⟨x, y, z', h1, h2⟩ := S9
        rw [z, h1] at ht; cases ht
      · rw [z, F9] at ht; cases ht
      · rw [z, C9] at ht; cases ht
      · rw [z, W9] at ht; cases ht
    have sT : Same H9 (upd H9 t (.tup [.str "send", .str x, .ref l])) := same_new ht
    refine ⟨F, _, _, rfl, rfl, sT _ _ F9, small1000 (by rw [hal]; omega), ?_⟩
    have b11 : But (zz sd F C W) H9 (upd (upd H9 t (.tup [.str "send", .str x, .ref l])) F (.lst (as.map V.ref ++ [.ref t]))) := (But.same sT).trans (But.put (by simp [zz]))
    have tF : t ≠ F := fun z => tZ (by rw [z]; simp)
    have t11 : (upd (upd H9 t (.tup [.str "send", .str x, .ref l])) F (.lst (as.map V.ref ++ [.ref t]))) t = some (.tup [.str "send", .str x, .ref l]) := (upd_ne tF).trans upd_same
    have F11 : (upd (upd H9 t (.tup [.str "send", .str x, .ref l])) F (.lst (as.map V.ref ++ [.ref t]))) F = some (.lst ((as ++ [t]).map V.ref)) := by rw [upd_same, List.map_append]; rfl
    have C11 : (upd (upd H9 t (.tup [.str "send", .str x, .ref l])) F (.lst (as.map V.ref ++ [.ref t]))) C = some (.dK kv1) := (upd_ne (Ne.symm QQ.fc)).trans (sT _ _ C9)
    have W11 : (upd (upd H9 t (.tup [.str "send", .str x, .ref l])) F (.lst (as.map V.ref ++ [.ref t]))) W = some (.lst (ws.map V.ref)) := (upd_ne (Ne.symm QQ.fw)).trans (sT _ _ W9)
    have S11 : SeedAt (upd (upd H9 t (.tup [.str "send", .str x, .ref l])) F (.lst (as.map V.ref ++ [.ref t]))) sd := by
      obtain ⟨a, b, c, h1, h2⟩ := S9
      exact ⟨a, b, c, (upd_ne (Ne.symm QQ.fs)).trans (sT _ _ h1), h2⟩
    have l11 : (upd (upd H9 t (.tup [.str "send", .str x, .ref l])) F (.lst (as.map V.ref ++ [.ref t]))) l = some (.lst (rs.map V.str)) := b11 _ _ lZ (b9 _ _ lZ hl8)
    generalize upd (upd H9 t (.tup [.str "send", .str x, .ref l])) F (.lst (as.map V.ref ++ [.ref t])) = H11 at b11 t11 F11 C11 W11 S11 l11 ⊢
    -- waiting
    refine ⟨.ref W, rfl, .inl ⟨rfl, _, .inl (.inl W11)⟩, .ref l, rfl, l, rfl, ⟨_, ltI l11⟩, fun D3 hD3 => lc_list (xs := rs.map V.str) (fun i H' => Same H11 H' ∧ ∃ ps : List Addr, H' D3 = some (.lst (ps.map V.ref)) ∧ ps.length = i ∧ ∀ (k : Nat) (p : Addr) (r : Str), ps[k]? = some p → rs[k]? = some r → EvZ (zz sd F C W) H' p (.opn r x ((((rsOf nodes es).sends x).length + 1 : Nat) : Int))) ?_ ?_ ?_ ?_⟩
    · exact ⟨same_new hD3, [], upd_same, rfl, fun k p r h1 => by simp at h1⟩
    · exact fun i H' _ hI => ltI (hI.1 _ _ l11)
    · rintro i v H' hv ⟨sm, ps, hps, hpl, hpe⟩
      rw [List.getElem?_map] at hv
      obtain ⟨r, hr1, rfl⟩ := Option.map_eq_some_iff.mp hv
      refine ⟨rfl, ?_⟩
      dsimp only [tYes]
      rw [if_pos rfl]
      refine ⟨.str r, rfl, .str x, rfl, .ref C, rfl, .str x, rfl, C, .int ((((rsOf nodes es).sends x).length + 1 : Nat) : Int), rfl, ?_, by show 2 ≤ sizeLine; decide, fun p1 hp1 => ⟨by show 3 ≤ sizeLine; decide, fun p2 hp2 => ?_⟩⟩
      · rw [← hcv]
        exact DGet.k (k := Sum.inr x) (sm _ _ C11)
      have z1 : Same H' (upd H' p1 (.tup [.str x, .int ((((rsOf nodes es).sends x).length + 1 : Nat) : Int)])) := same_new hp1
      have z2 : Same (upd H' p1 (.tup [.str x, .int ((((rsOf nodes es).sends x).length + 1 : Nat) : Int)])) (upd (upd H' p1 (.tup [.str x, .int ((((rsOf nodes es).sends x).length + 1 : Nat) : Int)])) p2 (.tup [.str "open", .str r, .ref p1])) := same_new hp2
      have nZ : ∀ {H2 : Hp} {a : Addr}, Same H11 H2 → H2 a = none → a ∉ zz sd F C W := fun {H2 a} sm ha => by
        simp only [zz, List.mem_cons, List.not_mem_nil, or_false]
        have hb := sm.free ha
        rintro (z | z | z | z)
        · obtain ⟨x, y, z', h1, h2⟩ := S11
          rw [z, h1] at hb; cases hb
        · rw [z, F11] at hb; cases hb
        · rw [z, C11] at hb; cases hb
        · rw [z, W11] at hb; cases hb
      have p1Z := nZ sm hp1
      have p2Z := nZ (sm.trans z1) hp2
      have hD4 := z2 _ _ (z1 _ _ hps)
      have hv1 := z2 _ _ (upd_same (H := H') (a := p1) (o := .tup [.str x, .int ((((rsOf nodes es).sends x).length + 1 : Nat) : Int)]))
      have hv2 := upd_same (H := upd H' p1 (.tup [.str x, .int ((((rsOf nodes es).sends x).length + 1 : Nat) : Int)])) (a := p2) (o := .tup [.str "open", .str r, .ref p1])
      have sm2 := (sm.trans z1).trans z2
      refine ⟨ps.map V.ref, hD4, small1000 (by
        rw [List.length_map, hpl]
        have := (List.getElem?_eq_some_iff.mp hr1).1
        omega), same_put sm2 hD3, ps ++ [p2], by rw [upd_same, List.map_append]; rfl, by simp [hpl], fun k p r' h1 h2 => ?_⟩
      by_cases c : k < ps.length
      · rw [List.getElem?_append_left c] at h1
        exact ((hpe k p r' h1 h2).same (z1.trans z2)).opn_put hD4
      · have hk : k = ps.length := by
          have := (List.getElem?_eq_some_iff.mp h1).1
          simp at this
          omega
        rw [hk, List.getElem?_append_right (Nat.le_refl _), Nat.sub_self] at h1
        cases h1
        rw [hk, hpl, hr1] at h2
        cases h2
        exact EvZ.opn_put (a := p2) ⟨p1, p2Z, p1Z, hv2, hv1⟩ hD4
    · rintro H12 ⟨sm, ps, hps, hpl, hpe⟩
      rw [List.length_map] at hpl
      have hwl : (ws.map V.ref).length = pend.length := by rw [List.length_map, I8.wa]
      refine ⟨W, D3, _, _, rfl, rfl, sm _ _ W11, hps, ?_, ?_⟩
      · have h1 := I8.pl
        rw [hwl, List.length_map, hpl]
        exact Nat.le_trans (by omega : _ ≤ 100000) (by decide)
      have bW : But (zz sd F C W) H12 (upd H12 W (.lst (ws.map V.ref ++ ps.map V.ref))) := But.put (by simp [zz])
      have bb : But (zz sd F C W) H8 (upd H12 W (.lst (ws.map V.ref ++ ps.map V.ref))) := ((b9.trans b11).trans (But.same sm)).trans bW
      have I13 := I8.send (a := t) (ps := ps) QQ hxn hrb rnd rl bb ((upd_ne QQ.fw).trans (sm _ _ F11)) ((upd_ne QQ.cw).trans (sm _ _ (hkv ▸ C11))) (by rw [upd_same, List.map_append]) (by
          obtain ⟨a, b, c, h1, h2⟩ := S11
          exact ⟨a, b, c, (upd_ne (Ne.symm QQ.ws)).trans (sm _ _ h1), h2⟩) ⟨l, tZ, lZ, bW _ _ tZ (sm _ _ t11), bW _ _ lZ (sm _ _ l11)⟩ hpl (fun k p r h1 h2 => (hpe k p r h1 h2).but bW)
      generalize upd H12 W (.lst (ws.map V.ref ++ ps.map V.ref)) = H13 at I13 ⊢
      clear bW bb b9 b11 hpe hps sm S11 W11 C11 F11 t11 l11 S9 C9 W9 F9
      have hes : (es ++ [Ev.snd x rs]).length = es.length + 1 := by simp
      have hm1 : (es ++ [Ev.snd x rs]).length ≤ many := by omega
      have hm0 : es.length < (es ++ [Ev.snd x rs]).length := by omega
      generalize hes1 : es ++ [Ev.snd x rs] = es1 at I13 hm1 hm0
      -- reverse?
      refine ⟨.ref sd, rfl, sd, 4, rfl, I13.s, by decide, by decide, fun H14 r14 hs14 hb14 _ _ => ⟨rfl, _, rfl, ite2 (fun _ => ?a) (fun _ => ?b)⟩⟩
      case' a =>
        have I14 := I13.seed QQ hs14 hb14
        refine ⟨.ref W, rfl, .inl ⟨rfl, _, .inl (.inl I14.w)⟩, W, _, rfl, rfl, I14.w, ?_⟩
        have I15 := I14.rev QQ
        rw [List.map_reverse] at I15
        generalize upd H14 W (.lst ((ws ++ ps).map V.ref).reverse) = H15 at I15 ⊢
        generalize (pend ++ newPend nodes es x rs).reverse = pd1 at I15
        generalize (ws ++ ps).reverse = wv1 at I15
      case' b =>
        have I15 := I13.seed QQ hs14 hb14
        generalize (pend ++ newPend nodes es x rs) = pd1 at I15
        generalize (ws ++ ps) = wv1 at I15
      all_goals
        refine ⟨fun m σ H' => ∃ es2 as2 pend2 ws2 kvs2 y6 y7 y8 y9, m = pend2.length ∧ es.length < es2.length ∧ es2.length ≤ many ∧ LInv H H' sd F C W nodes es2 as2 pend2 ws2 kvs2 ∧ σ = [some (.ref sd), some (.ref N), some (.int (many : Nat)), some (.ref F), some (.ref C), some (.ref W), y6, y7, y8, y9],
          ⟨_, es1, _, _, _, _, _, _, _, _, rfl, hm0, hm1, I15, rfl⟩, ?_⟩
        rintro m σ H16 ⟨es2, as2, pd2, ws2, kv2, z6, z7, z8, z9, rfl, g0, g1, J0, rfl⟩
        refine ⟨.ref W, rfl, Nat.zero_le _, fun E hE => ?_⟩
        have J := J0.new QQ (o := .lst []) hE
        have hE2 : (upd H16 E (.lst [])) E = some (.lst []) := upd_same
        generalize upd H16 E (.lst []) = H17 at J hE2 ⊢
        refine ⟨.list (pd2.map pdata), .list [], .lst (ltI J.w) (dp_pend J.wa J.pv), .lst (ltI hE2) .nil, shaped_pend hn (pend_in J.m), rfl, _, rfl, ?_⟩
        have fin : ∀ {H' : Hp}, LInv H H' sd F C W nodes es2 as2 pd2 ws2 kv2 → ∃ m', m' < many - es.length ∧ ∃ es as pend ws kvs y6 y7 y8 y9, m' = many - es.length ∧ es.length ≤ many ∧ LInv H H' sd F C W nodes es as pend ws kvs ∧ [some (V.ref sd), some (.ref N), some (.int (many : Nat)), some (.ref F), some (.ref C), some (.ref W), z6, z7, z8, z9] = [some (.ref sd), some (.ref N), some (.int (many : Nat)), some (.ref F), some (.ref C), some (.ref W), y6, y7, y8, y9] :=
          fun J' => ⟨_, by omega, es2, as2, pd2, ws2, kv2, _, _, _, _, rfl, g1, J', rfl⟩
        by_cases c0 : pd2 = []
        · rw [show PyData.eqv (.list (pd2.map pdata)) (.list []) = true by rw [c0]; rfl]
          exact iteF (iteF (fin J))
        · rw [show PyData.eqv (.list (pd2.map pdata)) (.list []) = false by
            cases pd2 with
            | nil => exact absurd rfl c0
            | cons _ _ => rfl]
          refine iteT ⟨.ref F, rfl, F, _, rfl, .inl (ltI J.f), .int (many : Nat), rfl, _, _, rfl, rfl, _, rfl, ?_⟩
          have hal2 : (as2.map V.ref).length = es2.length := by rw [List.length_map, J.ea]
          rw [hal2]
          by_cases c1 : es2.length < many
          · rw [decide_eq_true (by omega)]
            refine iteT ⟨.ref sd, rfl, sd, 5, rfl, J.s, by decide, by decide, fun H18 r18 hs18 hb18 _ _ => ⟨r18, 0, rfl, rfl, _, rfl, ite2 (fun _ => ?_) (fun _ => ?_)⟩⟩
            · have J2 := J.seed QQ hs18 hb18
              refine ⟨fun σ' H' => ∃ m', m' < pd2.length ∧ ∃ es3 as3 pend3 ws3 kvs3 y6 y7 y8 y9, m' = pend3.length ∧ es.length < es3.length ∧ es3.length ≤ many ∧ LInv H H' sd F C W nodes es3 as3 pend3 ws3 kvs3 ∧ σ' = [some (.ref sd), some (.ref N), some (.int (many : Nat)), some (.ref F), some (.ref C), some (.ref W), y6, y7, y8, y9], fun σ' H' h => h, ?_⟩
              obtain ⟨p, a, ps3, wr, ep, ew, J3⟩ := J2.open QQ c0
              subst ep ew
              have ewl : ((wr ++ [a]).map V.ref)[((wr ++ [a]).map V.ref).length - 1]? = some (.ref a) := by simp
              have ewd : ((wr ++ [a]).map V.ref).dropLast = wr.map V.ref := by simp
              refine ⟨.ref F, rfl, .inl ⟨rfl, _, .inl (.inl J2.f)⟩, .ref W, rfl, .inl ⟨rfl, _, .inl (.inl J2.w)⟩, W, _, .ref a, rfl, rfl, J2.w, ewl, ?_⟩
              rw [ewd]
              refine ⟨F, _, _, rfl, rfl, (upd_ne QQ.fw).trans J2.f, small1000 (by rw [hal2]; omega), ?_⟩
              rw [List.map_append] at J3
              exact ⟨_, by simp, _, _, _, _, _, _, _, _, _, rfl, by simp; omega, by simp; omega, J3, rfl⟩
            · exact fin (J.seed QQ hs18 hb18)
          · rw [decide_eq_false (by omega)]
            exact iteF (iteF (fin J))
end
end KA

set_option Elab.async false
set_option linter.all false
set_option maxRecDepth 100000
set_option maxHeartbeats 4000000
namespace KA
open PySem PySem.Spec PyProof.Rows L2 L2.Dx Kx
theorem upto_none {nodes : List Str} {es : List Ev} {k : Nat} (h : es[k]? = none) : Rs.upto nodes es (k + 1) = Rs.upto nodes es k := by
  show (match es[k]? with | some e => (Rs.upto nodes es k).next nodes k e | none => Rs.upto nodes es k) = _
  rw [h]
/-! ### sums over the sends -/
def Ev.isSnd : Ev → Bool
  | .snd _ _ => true
  | .opn _ _ _ => false
def sumS (nodes : List Str) (S : Str → List Nat) (f : Nat → Nat) : Nat := (nodes.map fun x => ((S x).map f).sum).sum
def sndSum (es : List Ev) (f : Nat → Nat) : Nat → Nat
  | 0 => 0
  | k + 1 => sndSum es f k + (match es[k]? with
    | some (.snd _ _) => f k
    | _ => 0)
theorem sum_upd {S : Str → List Nat} {x : Str} {k : Nat} {f : Nat → Nat} : ∀ {nodes : List Str}, nodes.Nodup → x ∈ nodes → (nodes.map fun y => ((if y = x then S x ++ [k] else S y).map f).sum).sum = (nodes.map fun y => ((S y).map f).sum).sum + f k
  | y :: r, nd, hx => by
    rw [List.nodup_cons] at nd
    simp only [List.map_cons, List.sum_cons]
    by_cases e : y = x
    · subst e
      have : (r.map fun z => ((if z = y then S y ++ [k] else S z).map f).sum) = r.map fun z => ((S z).map f).sum := List.map_congr_left fun z hz => by
        rw [if_neg fun (e : z = y) => nd.1 (by rw [← e]; exact hz)]
      rw [this, if_pos rfl]
      simp
      omega
    · rw [if_neg e, sum_upd nd.2 ((List.mem_cons.mp hx).resolve_left fun z => e z.symm)]
      omega
theorem sum_zero : ∀ (l : List Str), (l.map fun _ => 0).sum = 0
  | [] => rfl
  | a :: r => by
    show 0 + (r.map fun _ => 0).sum = 0
    rw [sum_zero r]
theorem sum_one : ∀ (l : List Msg), (l.map fun _ => 1).sum = l.length
  | [] => rfl
  | a :: r => by
    show 1 + (r.map fun _ => 1).sum = r.length + 1
    rw [sum_one r, Nat.add_comm]
theorem sumS_eq {nodes : List Str} {es : List Ev} {f : Nat → Nat} (nd : nodes.Nodup) : ∀ {k : Nat}, OkTo nodes es k → sumS nodes (Rs.upto nodes es k).sends f = sndSum es f k
  | 0, _ => by
    show (nodes.map fun _ => 0).sum = 0
    exact sum_zero nodes
  | k + 1, ok => by
    have ih := sumS_eq (nodes := nodes) (es := es) (f := f) nd (k := k) fun j hj => ok j (by omega)
    show _ = sndSum es f k + _
    cases hk : es[k]? with
    | none =>
      rw [upto_none hk, ih]
      rfl
    | some e =>
      rw [upto_succ hk, ← ih]
      cases e with
      | opn x s n => rfl
      | snd x rs =>
        have hx : x ∈ nodes := (ok k (by omega) _ hk).1
        exact sum_upd (S := (Rs.upto nodes es k).sends) (k := k) (f := f) nd hx
theorem all_sum {S : Str → List Nat} {f : Nat → Nat} : ∀ {nodes : List Str}, ((allMsgs nodes S).map fun t => f t.2.2).sum = sumS nodes S f
  | [] => rfl
  | x :: r => by
    have ih := @all_sum S f r
    have h1 : ∀ (l : List Nat) (k : Nat), ((numFrom k l).map fun p => f p.2).sum = (l.map f).sum := fun l => by
      induction l with
      | nil => intro k; rfl
      | cons a t iht =>
        intro k
        show f a + ((numFrom (k + 1) t).map fun p => f p.2).sum = _
        rw [iht (k + 1)]
        rfl
    unfold allMsgs sumS at ih ⊢
    rw [List.flatMap_cons, List.map_append, List.sum_append, ih]
    unfold msgsOf
    rw [List.map_map]
    show ((numFrom 1 (S x)).map fun p => f p.2).sum + _ = _
    rw [h1]
    rfl
theorem all_len {S : Str → List Nat} {nodes : List Str} : (allMsgs nodes S).length = sumS nodes S fun _ => 1 := by
  rw [← all_sum]
  exact (sum_one _).symm
/-! ### what is found at the end -/
theorem sends_pre {nodes : List Str} {es : List Ev} {x : Str} {i : Nat} : ∀ {m : Nat}, ∃ t, (Rs.upto nodes es (i + m)).sends x = (Rs.upto nodes es i).sends x ++ t
  | 0 => ⟨[], by simp⟩
  | m + 1 => by
    obtain ⟨t, ht⟩ := @sends_pre nodes es x i m
    cases hk : es[i + m]? with
    | none => exact ⟨t, by rw [show i + (m + 1) = i + m + 1 from rfl, upto_none hk]; exact ht⟩
    | some e =>
      rw [show i + (m + 1) = i + m + 1 from rfl, upto_succ hk]
      cases e with
      | opn y s n => exact ⟨t, ht⟩
      | snd y rs =>
        show ∃ t, (if x = y then (Rs.upto nodes es (i + m)).sends y ++ [i + m] else (Rs.upto nodes es (i + m)).sends x) = _
        by_cases c : x = y
        · subst c
          rw [if_pos rfl, ht]
          exact ⟨t ++ [i + m], by simp⟩
        · rw [if_neg c]
          exact ⟨t, ht⟩
theorem sent_last {nodes : List Str} {es : List Ev} {x : Str} {rs : List Str} {i : Nat} (ok : RunOk nodes es) (he : es[i]? = some (.snd x rs)) :
    sentAt (rsOf nodes es) nodes x ((((Rs.upto nodes es i).sends x).length + 1 : Nat) : Int) = some i := by
  have hi := (List.getElem?_eq_some_iff.mp he).1
  have hx : x ∈ nodes := (ok i hi _ he).1
  obtain ⟨t, ht⟩ := @sends_pre nodes es x (i + 1) (es.length - (i + 1))
  rw [show i + 1 + (es.length - (i + 1)) = es.length by omega, upto_succ he] at ht
  have ht : (rsOf nodes es).sends x = (if x = x then (Rs.upto nodes es i).sends x ++ [i] else (Rs.upto nodes es i).sends x) ++ t := ht
  rw [if_pos rfl] at ht
  unfold sentAt
  rw [if_pos ⟨hx, by omega⟩, ht, show (((((Rs.upto nodes es i).sends x).length + 1 : Nat) : Int) - 1).toNat = ((Rs.upto nodes es i).sends x).length by omega]
  simp
theorem opens_nd {nodes : List Str} {es : List Ev} {x : Str} : ∀ {k : Nat}, OkTo nodes es k → (((Rs.upto nodes es k).opens x).map (·.1)).Nodup
  | 0, _ => List.nodup_nil
  | k + 1, ok => by
    have ih := @opens_nd nodes es x k fun j hj => ok j (by omega)
    cases hk : es[k]? with
    | none => rw [upto_none hk]; exact ih
    | some e =>
      rw [upto_succ hk]
      cases e with
      | snd y rs => exact ih
      | opn y s n =>
        show ((if x = y then (Rs.upto nodes es k).opens y ++ [((sentAt (Rs.upto nodes es k) nodes s n).getD 0, k)] else (Rs.upto nodes es k).opens x).map (·.1)).Nodup
        by_cases c : x = y
        · subst c
          obtain ⟨j, h1, h2, h3⟩ := ok k (by omega) _ hk
          rw [if_pos rfl, h1, List.map_append, List.nodup_append]
          refine ⟨ih, by simp, fun a ha b hb e => ?_⟩
          obtain ⟨p, hp, rfl⟩ := List.mem_map.mp ha
          rw [List.all_eq_true] at h3
          have := h3 p hp
          simp at hb this
          exact this (e.trans hb)
        · rw [if_neg c]
          exact ih
theorem valV_ops_at {j i : Nat} : ∀ {l : List (Nat × Nat)}, (l.map (·.1)).Nodup → (j, i) ∈ l → valV (ops l) (.inl ((j : Nat) : Int)) = some (.int (i : Nat))
  | p :: r, nd, h => by
    rw [List.map_cons, List.nodup_cons] at nd
    show valV ((Sum.inl ((p.1 : Nat) : Int), V.int (p.2 : Nat)) :: ops r) _ = _
    rcases List.mem_cons.mp h with e | h
    · cases e
      exact valV_pos rfl
    · have : p.1 ≠ j := fun z => nd.1 (by rw [z]; exact List.mem_map.mpr ⟨_, h, rfl⟩)
      rw [valV_neg (fun z => this (Int.ofNat.inj (Sum.inl.inj z)))]
      exact valV_ops_at nd.2 h
theorem cnt_next {nodes : List Str} {es : List Ev} {kvs : List (Key × V)} {i : Nat} {x : Str} {rs : List Str} (he : es[i]? = some (.snd x rs)) (h : CntAt kvs (Rs.upto nodes es i).sends) :
    CntAt (putK kvs (.inr x) (.int (((Rs.upto nodes es i).sends x).length + 1 : Nat))) (Rs.upto nodes es (i + 1)).sends := fun y => by
  rw [valV_put, upto_succ he]
  show _ = if (if y = x then (Rs.upto nodes es i).sends x ++ [i] else (Rs.upto nodes es i).sends y).length = 0 then none else some (V.int (((if y = x then (Rs.upto nodes es i).sends x ++ [i] else (Rs.upto nodes es i).sends y).length : Nat) : Int))
  by_cases c : y = x
  · subst c
    rw [if_pos rfl, if_pos rfl, if_neg (by simp)]
    simp
  · rw [if_neg (fun z => c (Sum.inr.inj z)), if_neg c]
    exact h y
theorem cnt_get {S : Str → List Nat} {kvs : List (Key × V)} {x : Str} (h : CntAt kvs S) : (valV kvs (.inr x)).getD (.int 0) = .int ((S x).length : Nat) := by
  rw [h x]
  by_cases c : (S x).length = 0
  · rw [if_pos c, c]
    rfl
  · rw [if_neg c]
    rfl
/-! ### the nodes of the law -/
def nameB (z : Str) : Bool := decide (1 ≤ z.length) && decide (z.length ≤ 8) && z.cps.toList.all fun c => decide (97 ≤ c) && decide (c ≤ 122)
def ascB : List Str → Bool
  | a :: b :: r => decide (ltS a b) && ascB (b :: r)
  | _ => true
theorem ascB_pw : ∀ {ns : List Str}, ascB ns = true → ns.Pairwise ltS
  | [], _ => .nil
  | [a], _ => List.pairwise_singleton _ _
  | a :: b :: r, h => by
    have h : (decide (ltS a b) && ascB (b :: r)) = true := h
    rw [Bool.and_eq_true, decide_eq_true_eq] at h
    have ih := ascB_pw h.2
    refine .cons (fun y hy => ?_) ih
    rcases List.mem_cons.mp hy with rfl | hy
    · exact h.1
    · cases ih with
      | cons k _ => exact List.lt_trans h.1 (k y hy)
theorem nodesOk_by {ns : List Str} (h : (decide (2 ≤ ns.length) && decide (ns.length ≤ 12) && ns.all nameB && ascB ns) = true) : NodesOk ns := by
  simp only [Bool.and_eq_true, decide_eq_true_eq, List.all_eq_true] at h
  obtain ⟨⟨⟨h1, h2⟩, h3⟩, h4⟩ := h
  refine ⟨h1, h2, fun z hz => ?_, ascB_pw h4⟩
  have := h3 z hz
  unfold nameB at this
  simp only [Bool.and_eq_true, decide_eq_true_eq, List.all_eq_true] at this
  exact ⟨this.1.1, this.1.2, this.2⟩
abbrev nm (c : Nat) : Str := ("n" : Str) ++ ⟨#[c]⟩
def namesOf (x : Str) : List Str := x.cps.toList.map nm
theorem names_ok : ∀ r : Int, 0 ≤ r → r < 7 → NodesOk (namesOf (cutS ("abcdefghijkl" : Str) none (some (6 + r)))) := fun r h0 h1 => by
  have : r = 0 ∨ r = 1 ∨ r = 2 ∨ r = 3 ∨ r = 4 ∨ r = 5 ∨ r = 6 := by omega
  rcases this with rfl | rfl | rfl | rfl | rfl | rfl | rfl <;> exact nodesOk_by (by decide +kernel)
end KA

set_option Elab.async false
set_option linter.all false
set_option maxRecDepth 100000
set_option maxHeartbeats 4000000
namespace L2.Dx
open PySem PySem.Spec PyProof.Rows L2
/-- a list comprehension over a text's signs -/
theorem lc_its {x : Str} {g : TG} {tt : TT} {te : TE} {vs : List Nat} {σ : St} {H1 : Hp} {D : Addr} {Qd : Hp → Prop} (Pv : Nat → Hp → Prop) (h0 : Pv 0 (upd H1 D (.lst [])))
    (hs : ∀ i c H, x.cps[i]? = some c → Pv i H → g (.str ⟨#[c]⟩) (wipe σ vs) H fun σ2 H2 => wipe σ2 vs = wipe σ vs ∧ tt σ2 H2 fun b H3 =>
      if b = true then te σ2 H3 fun y H4 => ∃ acc, H4 D = some (.lst acc) ∧ acc.length < sizeLine ∧ Pv (i + 1) (upd H4 D (.lst (acc ++ [y]))) else Pv (i + 1) H3) (hd : ∀ H, Pv x.cps.size H → Qd H) :
    ∃ W : Nat → Nat → Hp → Prop, (∃ m, W 0 m (upd H1 D (.lst []))) ∧ ∀ i m H, W i m H →
      ((Its x).stop i H ∧ Qd H) ∨ ((Its x).go i H ∧ ∃ Nx : Hp → Prop, (∀ H', Nx H' → ∃ m', m' < m ∧ W (i + 1) m' H') ∧ ∀ v H', (Its x).yld i H v H' → g v (wipe σ vs) H' fun σ2 H2 => wipe σ2 vs = wipe σ vs ∧ tt σ2 H2 fun b H3 =>
        if b = true then te σ2 H3 fun y H4 => ∃ acc, H4 D = some (.lst acc) ∧ acc.length < sizeLine ∧ Nx (upd H4 D (.lst (acc ++ [y]))) else Nx H3) := by
  refine ⟨fun i m H => m = x.cps.size - i ∧ i ≤ x.cps.size ∧ Pv i H, ⟨_, rfl, Nat.zero_le _, h0⟩, fun i m H ⟨em, hi, p⟩ => ?_⟩
  subst em
  rcases Nat.lt_or_ge i x.cps.size with lt | ge
  · refine .inr ⟨lt, Pv (i + 1), fun H' p' => ⟨_, by omega, rfl, lt, p'⟩, fun v H' ⟨e, c, hc, ev⟩ => ?_⟩
    subst e ev
    exact hs i c _ hc p
  · have e : x.cps.size = i := Nat.le_antisymm ge hi
    subst e
    exact .inl ⟨Nat.le_refl _, hd H p⟩
/-- .. over a locked dict's tuple keys -/
theorem lc_keysT {d : Addr} {o : Obj} {kvs : List (List Key × V)} {g : TG} {tt : TT} {te : TE} {vs : List Nat} {σ : St} {H1 : Hp} {D : Addr} {Qd : Hp → Prop} (Pv : Nat → Hp → Prop) (h0 : Pv 0 (upd H1 D (.lst []))) (hl : ∀ i H, i ≤ kvs.length → Pv i H → H d = some (.frz o (.dT kvs)))
    (hs : ∀ i k v q H, kvs[i]? = some (k, v) → H q = some (.tup (k.map kV)) → Pv i H → g (.ref q) (wipe σ vs) H fun σ2 H2 => wipe σ2 vs = wipe σ vs ∧ tt σ2 H2 fun b H3 =>
      if b = true then te σ2 H3 fun y H4 => ∃ acc, H4 D = some (.lst acc) ∧ acc.length < sizeLine ∧ Pv (i + 1) (upd H4 D (.lst (acc ++ [y]))) else Pv (i + 1) H3) (hd : ∀ H, Pv kvs.length H → Qd H) :
    ∃ W : Nat → Nat → Hp → Prop, (∃ m, W 0 m (upd H1 D (.lst []))) ∧ ∀ i m H, W i m H →
      ((Itkt d o kvs).stop i H ∧ Qd H) ∨ ((Itkt d o kvs).go i H ∧ ∃ Nx : Hp → Prop, (∀ H', Nx H' → ∃ m', m' < m ∧ W (i + 1) m' H') ∧ ∀ v H', (Itkt d o kvs).yld i H v H' → g v (wipe σ vs) H' fun σ2 H2 => wipe σ2 vs = wipe σ vs ∧ tt σ2 H2 fun b H3 =>
        if b = true then te σ2 H3 fun y H4 => ∃ acc, H4 D = some (.lst acc) ∧ acc.length < sizeLine ∧ Nx (upd H4 D (.lst (acc ++ [y]))) else Nx H3) := by
  refine ⟨fun i m H => m = kvs.length - i ∧ i ≤ kvs.length ∧ Pv i H, ⟨_, rfl, Nat.zero_le _, h0⟩, fun i m H ⟨em, hi, p⟩ => ?_⟩
  subst em
  rcases Nat.lt_or_ge i kvs.length with lt | ge
  · refine .inr ⟨⟨hl i H hi p, lt⟩, Pv (i + 1), fun H' p' => ⟨_, by omega, rfl, lt, p'⟩, fun w H' ⟨e, k, v, q, hk, ew, hq⟩ => ?_⟩
    subst e ew
    exact hs i k v q _ hk hq p
  · have e : kvs.length = i := Nat.le_antisymm ge hi
    subst e
    exact .inl ⟨⟨hl _ H hi p, Nat.le_refl _⟩, hd H p⟩
end L2.Dx
namespace KA
open PySem PySem.Spec PyProof.Rows L2 L2.Dx Kx
def sndIx (es : List Ev) : Nat → List Nat
  | 0 => []
  | k + 1 => sndIx es k ++ (match es[k]? with
    | some (.snd _ _) => [k]
    | _ => [])
theorem sndIx_sum {es : List Ev} {f : Nat → Nat} : ∀ k, ((sndIx es k).map f).sum = sndSum es f k
  | 0 => rfl
  | k + 1 => by
    show ((sndIx es k ++ _).map f).sum = sndSum es f k + _
    rw [List.map_append, List.sum_append, sndIx_sum k]
    cases es[k]? with
    | none => rfl
    | some e => cases e <;> simp
theorem sndIx_len {es : List Ev} : ∀ k, (sndIx es k).length = sndSum es (fun _ => 1) k
  | 0 => rfl
  | k + 1 => by
    show (sndIx es k ++ _).length = sndSum es (fun _ => 1) k + _
    rw [List.length_append, sndIx_len k]
    cases es[k]? with
    | none => rfl
    | some e => cases e <;> rfl
theorem sndIx_le {es : List Ev} : ∀ k, (sndIx es k).length ≤ k
  | 0 => Nat.le_refl _
  | k + 1 => by
    have := @sndIx_le es k
    show (sndIx es k ++ _).length ≤ k + 1
    rw [List.length_append]
    have h2 : ((match es[k]? with
      | some (.snd _ _) => [k]
      | _ => [] : List Nat)).length ≤ 1 := by
      cases es[k]? with
      | none => simp
      | some e => cases e <;> simp
    omega
theorem sndIx_mem {es : List Ev} {j : Nat} : ∀ {k}, j ∈ sndIx es k → ∃ x rs, es[j]? = some (.snd x rs)
  | 0, h => nomatch h
  | k + 1, h => by
    have h : j ∈ sndIx es k ++ _ := h
    rcases List.mem_append.mp h with h | h
    · exact sndIx_mem h
    · cases hk : es[k]? with
      | none => rw [hk] at h; cases h
      | some e =>
        rw [hk] at h
        cases e with
        | opn x s n => cases h
        | snd x rs =>
          cases List.mem_singleton.mp h
          exact ⟨x, rs, hk⟩
theorem key_inj {nodes : List Str} {S : Str → List Nat} {t u : Msg} (ht : t ∈ allMsgs nodes S) (hu : u ∈ allMsgs nodes S) (e : keyOf t = keyOf u) : t = u := by
  obtain ⟨_, a1, a2, a3⟩ := all_mem ht
  obtain ⟨_, b1, b2, b3⟩ := all_mem hu
  have e1 : t.1 = u.1 := Sum.inr.inj (List.cons.inj e).1
  have e2 : t.2.1 = u.2.1 := Int.ofNat.inj (Sum.inl.inj (List.cons.inj (List.cons.inj e).2).1)
  rw [e1, e2, b3] at a3
  have e3 := Option.some.inj a3
  obtain ⟨x, k, j⟩ := t
  obtain ⟨y, l, m⟩ := u
  simp only at e1 e2 e3
  rw [e1, e2, e3]
theorem valT_in {h : Msg → V} {t : Msg} : ∀ {L : List Msg}, t ∈ L → (∀ u ∈ L, keyOf t = keyOf u → t = u) → valV (L.map fun t => (keyOf t, h t)) (keyOf t) = some (h t)
  | u :: r, ht, inj => by
    rw [List.map_cons]
    by_cases e : keyOf u = keyOf t
    · rw [valV_pos e, inj u List.mem_cons_self e.symm]
    · rw [valV_neg e]
      exact valT_in ((List.mem_cons.mp ht).resolve_left fun z => e (by rw [z])) fun v hv => inj v (List.mem_cons_of_mem _ hv)
theorem cast_sum {α : Type} {f : α → Nat} : ∀ (l : List α), (l.map fun t => ((f t : Nat) : Int)).sum = (((l.map f).sum : Nat) : Int)
  | [] => rfl
  | a :: r => by
    rw [List.map_cons, List.sum_cons, cast_sum r, List.map_cons, List.sum_cons]
    omega
theorem sq_move {K : PySem.W.Frag} {H H' : Hp} {a : Addr} {xs : List V} (h : SqL K H a xs) (t : ∀ o, H a = some o → H' a = some o) : SqL K H' a xs := by
  rcases h with (h | ⟨o, h⟩) | h
  · exact .inl (.inl (t _ h))
  · exact .inl (.inr ⟨o, t _ h⟩)
  · exact .inr h
end KA

set_option Elab.async false
set_option linter.all false
set_option maxRecDepth 100000
set_option maxHeartbeats 16000000
namespace KA
open PySem PySem.Spec PyProof.Rows L2 L2.Dx Kx
section
variable {P : Program} {w : World} {K : PySem.W.Frag} {mg : Str → Option Value} {base : Heap}
def sp_law (K : PySem.W.Frag) : Sp := fun vs H Q _ => ∃ (S : Addr) (ns : List Int), vs = [.ref S] ∧ SqL K H S (ns.map V.int) ∧ ns.length ≤ 63 ∧ ∀ H', Q (.bl true) H'
theorem ok_law (T : Txt K mg) : FnOk P w K mg base CX0 5 T.f_law T.fd_law ["script"] (sp_law K) := by
  refine T.F_law.ok sc_law (fun vs H Q E h => ?_) (fun cdv A outer s H vs Q E hr h => ?_)
  · obtain ⟨S, ns, rfl, _⟩ := h
    rfl
  · obtain ⟨S, ns, rfl, hS, hns, q⟩ := h
    refine ⟨_, (pss_cons (ps_for PassesOwn.never rfl (pi_range1 (by rfl) T.m_range (pa_cons (pe_callB (call_max2 rfl) (by rfl) T.m_max (by decide +kernel) (pa_cons pe_int (pa_cons (pe_callB (call_min2 rfl) (by rfl) T.m_min (by decide +kernel) (pa_cons pe_int (pa_cons (pe_callB call_len_seq (by rfl) T.m_len PySem.boot_len (pa_cons (pv 0) pa_nil)) pa_nil))) pa_nil))) pa_nil)) (pg_name (i := 1) sc_law.nd rfl (by first | exact .inl rfl | exact .inr rfl))
      (pss_cons (ps_set (i := 2) sc_law.nd rfl (by first | exact .inl rfl | exact .inr rfl) (pe_call (ok__law_seed T) (hr.mono (by decide)) rfl T.M__law_seed T.F__law_seed.kp (b__law_seed T) .nil pass0 (pa_cons (pv 0) (pa_cons (pv 1) pa_nil))))
      (pss_cons (ps_setLc (i := 3) (own := [("letter", 11)]) rfl sc_law.nd rfl rfl (sw_true rfl rfl rfl (by decide +kernel)) (pi_str (pe_slice sl_str pe_str po_none (po_some (pe_op op_add pe_int (pe_call (ok__law_next T) (hr.mono (by decide)) rfl T.M__law_next T.F__law_next.kp (b__law_next T) .nil pass0 (pa_cons (pv 2) (pa_cons pe_int pa_nil))))))) (blkOk_by (N := ["script", "k", "seed", "nodes", "run", "told", "sends", "many", "counts", "index", "event", "letter", "message"]) (sc := defScope s_law) (by decide +kernel)) (fun _ _ _ _ _ => (pg_name (i := 11) sc_law.nd rfl (by first | exact .inl rfl | exact .inr rfl))) (fun _ _ _ _ _ => pts_nil) (fun _ _ _ _ _ => (pe_op op_add_str pe_str (pv 11))))
      (pss_cons (ps_set (i := 4) sc_law.nd rfl (by first | exact .inl rfl | exact .inr rfl) (pe_call (ok__law_large T) (hr.mono (by decide)) rfl T.M__law_large T.F__law_large.kp (b__law_large T) .nil pass0 (pa_cons (pv 2) (pa_cons (pv 3) (pa_cons (pe_op op_add pe_int (pe_call (ok__law_next T) (hr.mono (by decide)) rfl T.M__law_next T.F__law_next.kp (b__law_next T) .nil pass0 (pa_cons (pv 2) (pa_cons pe_int pa_nil)))) pa_nil)))))
      (pss_cons (ps_set (i := 5) sc_law.nd rfl (by first | exact .inl rfl | exact .inr rfl) (pe_call (ok_messages_of T) (hr.mono (by decide)) rfl T.M_messages_of T.F_messages_of.kp (b_messages_of T) .nil pass0 (pa_cons (pv 3) (pa_cons (pv 4) pa_nil))))
      (pss_cons (ps_setLc (i := 6) (own := [("event", 10)]) rfl sc_law.nd rfl rfl (sw_true rfl rfl rfl (by decide +kernel)) (pi_list (pv 4)) (blkOk_by (N := ["script", "k", "seed", "nodes", "run", "told", "sends", "many", "counts", "index", "event", "letter", "message"]) (sc := defScope s_law) (by decide +kernel)) (fun _ _ _ _ _ => (pg_name (i := 10) sc_law.nd rfl (by first | exact .inl rfl | exact .inr rfl))) (fun _ _ _ _ _ => (pts_one (pt_cmpR op_eq (pe_ix (ix_tupK (K := K) rfl) (pv 10) pe_int (fun _ _ => rfl)) pe_str (nomark _)))) (fun _ _ _ _ _ => (pv 10)))
      (pss_cons (ps_if (PW.pt (pw_or (pt_not (pt_val (pe_call (ok_is_run T) (hr.mono (by decide)) rfl T.M_is_run T.F_is_run.kp (b_is_run T) .nil pass0 (pa_cons (pv 3) (pa_cons (pv 4) pa_nil))))) (pw_or1 (pt_cmpR op_ne (pe_callB call_len_dT (by rfl) T.m_len PySem.boot_len (pa_cons (pv 5) pa_nil)) (pe_callB call_len_seq (by rfl) T.m_len PySem.boot_len (pa_cons (pv 6) pa_nil)) (nomark _)))))
        (pss_one (ps_ret pe_bl))
        pss_nil)
      (pss_cons (ps_set (i := 7) sc_law.nd rfl (by first | exact .inl rfl | exact .inr rfl) (pe_callB (cr_sum rfl) (by rfl) T.m_sum boot_sum (pa_cons (pe_lc (own := [("event", 10)]) rfl sc_law.nd (pi_list (pv 6)) (blkOk_by (N := ["script", "k", "seed", "nodes", "run", "told", "sends", "many", "counts", "index", "event", "letter", "message"]) (sc := defScope s_law) (by decide +kernel)) (fun _ _ _ _ _ => (pg_name (i := 10) sc_law.nd rfl (by first | exact .inl rfl | exact .inr rfl))) (fun _ _ _ _ _ => pts_nil) (fun _ _ _ _ _ => (pe_callB (call_len_seqK (K := K) rfl) (by rfl) T.m_len PySem.boot_len (pa_cons (pe_ix (ix_tupK (K := K) rfl) (pv 10) pe_int (fun _ _ => rfl)) pa_nil)))) pa_nil)))
      (pss_cons (ps_if (pt_cmpR op_ne (pe_callB (cr_sum rfl) (by rfl) T.m_sum boot_sum (pa_cons (pe_lock (pe_lc (own := [("message", 12)]) rfl sc_law.nd (pi_keys (pv 5)) (blkOk_by (N := ["script", "k", "seed", "nodes", "run", "told", "sends", "many", "counts", "index", "event", "letter", "message"]) (sc := defScope s_law) (by decide +kernel)) (fun _ _ _ _ _ => (pg_name (i := 12) sc_law.nd rfl (by first | exact .inl rfl | exact .inr rfl))) (fun _ _ _ _ _ => pts_nil) (fun _ _ _ _ _ => (pe_callB (call_len_seqK (K := K) rfl) (by rfl) T.m_len PySem.boot_len (pa_cons (pe_dget (hu_of hr) (pv 5) (pv 12) (fun _ _ => rfl)) pa_nil))))) pa_nil)) (pv 7) (nomark _))
        (pss_one (ps_ret pe_bl))
        pss_nil)
      (pss_cons (ps_set (i := 8) sc_law.nd rfl (by first | exact .inl rfl | exact .inr rfl) pe_dnewK)
      (pss_one (ps_for PassesOwn.never rfl (pi_enum (by rfl) T.m_enumerate (pa_cons (pv 4) pa_nil)) (pg_tup rfl (pgs_cons (pg_name (i := 9) sc_law.nd rfl (by first | exact .inl rfl | exact .inr rfl)) (pgs_cons (pg_name (i := 10) sc_law.nd rfl (by first | exact .inl rfl | exact .inr rfl)) pgs_nil)))
        (pss_one (ps_if (pt_cmpR op_eq (pe_ix ix_tup (pv 10) pe_int (fun _ _ => rfl)) pe_str (nomark _))
          (pss_cons (ps_dput (hu_of hr) (pv 8) (pe_ix ix_tup (pv 10) pe_int (fun _ _ => rfl)) (pe_op op_add (pe_dget2 (hu_of hr) (pv 8) (pe_ix ix_tup (pv 10) pe_int (fun _ _ => rfl)) pe_int ⟨rfl, rfl, rfl, rfl⟩) pe_int) rfl)
          (pss_one (ps_if (pt_cmpR op_ne (pe_call (ok_send_index T) (hr.mono (by decide)) rfl T.M_send_index T.F_send_index.kp (b_send_index T) .nil pass0 (pa_cons (pv 3) (pa_cons (pv 4) (pa_cons (pe_tup (pa_cons (pe_ix ix_tup (pv 10) pe_int (fun _ _ => rfl)) (pa_cons (pe_dget (hu_of hr) (pv 8) (pe_ix ix_tup (pv 10) pe_int (fun _ _ => rfl)) (fun _ _ => rfl)) pa_nil))) pa_nil)))) (pv 9) (nomark _))
            (pss_one (ps_ret pe_bl))
            pss_nil)))
          (pss_one (ps_if (PW.pt (pw_or (pt_cmpR op_ne (pe_call (ok_open_index T) (hr.mono (by decide)) rfl T.M_open_index T.F_open_index.kp (b_open_index T) .nil pass0 (pa_cons (pv 3) (pa_cons (pv 4) (pa_cons (pe_ix ix_tup (pv 10) pe_int (fun _ _ => rfl)) (pa_cons (pe_ix ix_tup (pv 10) pe_int (fun _ _ => rfl)) pa_nil))))) (pv 9) (nomark _)) (pw_or1 (pt_val (pe_call (ok_is_run T) (hr.mono (by decide)) rfl T.M_is_run T.F_is_run.kp (b_is_run T) .nil pass0 (pa_cons (pv 3) (pa_cons (pe_op op_cat (pv 4) (pe_lst (pa_cons (pv 10) pa_nil))) pa_nil)))))))
            (pss_one (ps_ret pe_bl))
            pss_nil))))))))))))))))
    (pss_one (ps_ret pe_bl))), ?_⟩
    obtain ⟨cnt, hc1, hc2⟩ : ∃ c : Nat, c ≤ 2 ∧ (if (if (ns.length : Int) < 2 then (ns.length : Int) else 2) > 1 then (if (ns.length : Int) < 2 then (ns.length : Int) else 2) else 1) = (c : Int) := by
      by_cases c : ns.length < 2
      · refine ⟨1, by decide, ?_⟩
        rw [if_pos (by omega : (ns.length : Int) < 2), if_neg (by omega)]
        rfl
      · refine ⟨2, by decide, ?_⟩
        rw [if_neg (by omega : ¬ (ns.length : Int) < 2), if_pos (by omega)]
        rfl
    refine ⟨.ref S, rfl, S, _, rfl, .inl hS, 2, _, rfl, 1, _, rfl, (cnt : Nat), ?_, by omega, by omega, for_range (fun i σ H' => SqL K H' S (ns.map V.int) ∧ ∃ y1 y2 y3 y4 y5 y6 y7 y8 y9 y10 y11 y12, σ = [some (.ref S), y1, y2, y3, y4, y5, y6, y7, y8, y9, y10, y11, y12]) ?_ ?_ ?_⟩
    · rw [List.length_map, hc2]
    · exact ⟨hS, none, none, none, none, none, none, none, none, none, none, none, none, rfl⟩
    · rintro i σ H0 hi ⟨hS0, y1, y2, y3, y4, y5, y6, y7, y8, y9, y10, y11, y12, rfl⟩
      rw [Int.toNat_natCast] at hi
      -- seed
      refine ⟨.ref S, rfl, _, rfl, S, ns, i, by rw [Int.zero_add]; rfl, hS0, by omega, fun H1 sd s1 nsd hsd1 => ?_⟩
      have Ssd : ∀ o, H0 S = some o → S ≠ sd := fun o ho z => by
        rw [← z, ho] at nsd
        cases nsd
      -- nodes
      refine ⟨.ref sd, rfl, sd, 7, rfl, hsd1, by decide, by decide, fun H2 r2 hsd2 hb2 r20 r21 => ?_⟩
      have hn := names_ok r2 r20 r21
      refine ⟨6, r2, rfl, rfl, _, rfl, _, rfl, by decide, _, rfl, fun Nn hNn => ?_⟩
      generalize cutS ("abcdefghijkl" : Str) none (some (6 + r2)) = tx at hn ⊢
      refine lc_its (fun i H => (∀ b, b ≠ Nn → H b = H2 b) ∧ H Nn = some (.lst (((tx.cps.toList.take i).map nm).map V.str))) ⟨fun b hb => upd_ne hb, upd_same⟩ ?_ ?_
      · rintro j c H hc ⟨h1, h2⟩
        refine ⟨rfl, ?_⟩
        dsimp only [tYes]
        rw [if_pos rfl]
        have hc' : tx.cps.toList[j]? = some c := by rw [Array.getElem?_toList]; exact hc
        refine ⟨_, rfl, _, _, rfl, rfl, ?_, _, h2, ?_, fun b hb => (upd_ne hb).trans (h1 b hb), ?_⟩
        · show 1 + 1 ≤ sizeLine
          decide
        · rw [List.length_map, List.length_map]
          have h3 : tx.cps.toList.length ≤ 12 := by
            have := hn.hi
            unfold namesOf at this
            rwa [List.length_map] at this
          exact small1000 (Nat.le_trans (List.length_take_le' _ _) (by omega))
        · rw [upd_same, take_snoc hc', List.map_append, List.map_append]
          rfl
      rintro H3 ⟨hb3, hN3⟩
      rw [show tx.cps.size = tx.cps.toList.length from rfl, List.take_length] at hN3
      rw [show (tx.cps.toList.map nm) = namesOf tx from rfl] at hN3
      generalize namesOf tx = nodes at hN3 hn
      have Nsd : Nn ≠ sd := fun z => by
        obtain ⟨a, b, c, h1, _⟩ := hsd2
        rw [z, h1] at hNn
        cases hNn
      have hsd3 : SeedAt H3 sd := by
        obtain ⟨a, b, c, h1, h2⟩ := hsd2
        exact ⟨a, b, c, (hb3 sd (Ne.symm Nsd)).trans h1, h2⟩
      -- run
      refine ⟨.ref sd, rfl, .ref Nn, rfl, .ref sd, rfl, sd, 90, rfl, hsd3, by decide, by decide, fun H4 r4 hsd4 hb4 r40 r41 => ?_⟩
      have hN4 := (hb4 Nn Nsd).trans hN3
      refine ⟨60, r4, rfl, rfl, sd, Nn, nodes, 60 + r4.toNat, ?_, hsd4, Nsd, hN4, hn, by omega, fun H5 R as es hb5 hsd5 nR hR hlen ok Rsd => ?_⟩
      · show [V.ref sd, V.ref Nn, V.int (60 + r4)] = _
        rw [show (60 : Int) + r4 = ((60 + r4.toNat : Nat) : Int) by omega]
      have hN5 := hb5 Nn _ (by simpa using Nsd) hN4
      have hS5 : SqL K H5 S (ns.map V.int) := by
        refine sq_move hS0 fun o ho => ?_
        have k1 := s1 _ _ ho
        have k2 := (hb2 S (Ssd o ho)).trans k1
        have k3 : S ≠ Nn := fun z => by
          rw [z, hNn] at k2
          cases k2
        exact hb5 S _ (by simpa using Ssd o ho) ((hb4 S (Ssd o ho)).trans ((hb3 S k3).trans k2))
      have elen : es.length ≤ 200 := by omega
      clear hb2 hb3 hb4 hb5 hsd1 hsd2 hsd3 hsd4 hsd5 hN3 hN4 s1 hNn
      have G5 : Given H5 Nn R nodes as es := ⟨hN5, hn, hR, by omega, texts_of hn ok⟩
      -- told
      refine ⟨.ref Nn, rfl, .ref R, rfl, Nn, R, nodes, as, es, rfl, G5, ok, fun H6 D hh s6 nD hM => ?_⟩
      have mvG : ∀ {H' : Hp}, Same H5 H' → Given H' Nn R nodes as es := fun s => ⟨s _ _ hN5, hn, hR.same s, G5.len, G5.tx⟩
      have asg : ∀ {k : Nat}, k < es.length → as[k]? = some (as.getD k 0) := fun {k} hk => by
        rw [List.getD_eq_getElem?_getD]
        have : k < as.length := by rw [hR.len]; exact hk
        rw [List.getElem?_eq_getElem this]
        rfl
      -- sends
      refine ⟨.ref R, rfl, R, rfl, ⟨_, ltI (s6 _ _ hR.at')⟩, fun Ds hDs => lc_list (xs := as.map V.ref) (fun i H => Same H6 H ∧ H Ds = some (.lst ((sndIx es i).map fun j => V.ref (as.getD j 0)))) ⟨same_new hDs, upd_same⟩ (fun i H _ hI => ltI (hI.1 _ _ (s6 _ _ hR.at'))) ?_ ?_⟩
      · rintro k v H hv ⟨sm, hd⟩
        rw [List.getElem?_map] at hv
        obtain ⟨a, ha, rfl⟩ := Option.map_eq_some_iff.mp hv
        have hk : k < es.length := by rw [← hR.len]; exact (List.getElem?_eq_some_iff.mp ha).1
        have ea : as.getD k 0 = a := by
          have := asg hk
          rw [ha] at this
          exact (Option.some.inj this).symm
        obtain ⟨e, he⟩ : ∃ e, es[k]? = some e := ⟨_, List.getElem?_eq_getElem hk⟩
        have hev := (hR.ev k a e ha he).same (s6.trans sm)
        have hl2 := @sndIx_le es k
        cases e with
        | snd x rs =>
          obtain ⟨l, hl1, _⟩ := hev
          refine ⟨rfl, .ref a, rfl, a, _, 0, .str "send", rfl, rfl, tpI hl1, atI_nat (j := 0) rfl, rfl, true, rfl, iteT ⟨.ref a, rfl, _, hd, small1000 (by rw [List.length_map]; omega), same_put sm hDs, ?_⟩⟩
          rw [upd_same]
          show _ = some (HO.lst ((sndIx es k ++ (match es[k]? with
            | some (.snd _ _) => [k]
            | _ => [])).map fun j => V.ref (as.getD j 0)))
          rw [he, List.map_append]
          show some (HO.lst (_ ++ [V.ref a])) = some (HO.lst (_ ++ [V.ref (as.getD k 0)]))
          rw [ea]
        | opn x s n =>
          obtain ⟨l, hl1, _⟩ := hev
          refine ⟨rfl, .ref a, rfl, a, _, 0, .str "open", rfl, rfl, tpI hl1, atI_nat (j := 0) rfl, rfl, false, rfl, iteF ⟨sm, ?_⟩⟩
          show H Ds = some (HO.lst ((sndIx es k ++ (match es[k]? with
            | some (.snd _ _) => [k]
            | _ => [])).map fun j => V.ref (as.getD j 0)))
          rw [he, hd, List.append_nil]
      rintro H7 ⟨s7, hDs7⟩
      rw [List.length_map, hR.len] at hDs7
      have hM7 := hM.same s7
      -- is_run, the lengths
      refine ⟨.ref Nn, rfl, .ref R, rfl, Nn, R, nodes, as, es, rfl, mvG (s6.trans s7), fun _ H8 s8 => ?_, fun z => absurd ok z⟩
      refine ⟨true, rfl, iteF ⟨.ref D, rfl, D, _, rfl, s8 _ _ hM7.at', .ref Ds, rfl, Ds, _, rfl, .inl (ltI (s8 _ _ hDs7)), rfl, false, ?_, iteF ?_⟩⟩
      · rw [List.length_map, List.length_map, all_len, sndIx_len, sumS_eq hn.nodup ok]
        simp
      -- many
      refine ⟨.ref Ds, rfl, Ds, rfl, ⟨_, ltI (s8 _ _ hDs7)⟩, fun E hE => lc_list (xs := (sndIx es es.length).map fun j => V.ref (as.getD j 0)) (fun i H => Same H8 H ∧ H E = some (.lst ((((sndIx es es.length).take i).map fun j => (((recvAt es j).length : Nat) : Int)).map V.int))) ⟨same_new hE, upd_same⟩ (fun i H _ hI => ltI (hI.1 _ _ (s8 _ _ hDs7))) ?_ ?_⟩
      · rintro k v H hv ⟨sm, hd⟩
        rw [List.getElem?_map] at hv
        obtain ⟨j, hj, rfl⟩ := Option.map_eq_some_iff.mp hv
        obtain ⟨x, rs, he⟩ := sndIx_mem (List.mem_of_getElem? hj)
        obtain ⟨l, hl1, hl2⟩ := (hR.ev j _ _ (asg (List.getElem?_eq_some_iff.mp he).1) he).same (((s6.trans s7).trans s8).trans sm)
        have hle := @sndIx_le es es.length
        refine ⟨rfl, ?_⟩
        dsimp only [tYes]
        rw [if_pos rfl]
        refine ⟨_, rfl, as.getD j 0, _, 2, .ref l, rfl, rfl, tpI hl1, atI_nat (j := 2) rfl, l, _, rfl, .inl (ltI hl2), _, hd, small1000 ?_, same_put sm hE, ?_⟩
        · rw [List.length_map, List.length_map]
          exact Nat.le_trans (List.length_take_le' _ _) (by omega)
        · rw [upd_same, take_snoc hj, List.map_append, List.map_append, List.length_map]
          show _ = some (HO.lst (_ ++ [V.int (((recvAt es j).length : Nat) : Int)]))
          rw [recvAt_snd he]
      rintro H9 ⟨s9, hE9⟩
      rw [List.length_map, List.take_length] at hE9
      refine ⟨E, _, rfl, ltI hE9, ?_⟩
      have s09 : Same H5 H9 := ((s6.trans s7).trans s8).trans s9
      have hM9 := (hM7.same s8).same s9
      generalize hLL : allMsgs nodes (Rs.upto nodes es es.length).sends = LL at hM9
      -- the sum over told, locked
      refine ⟨D, _, hM9.at', True.intro, fun od => ?_⟩
      refine ⟨.ref D, rfl, D, od, rfl, .inr ⟨_, upd_same, fun E2 hE2 => ?_⟩⟩
      have nDE : D ≠ E2 := fun z => by
        rw [z, upd_same] at hE2
        cases hE2
      have hE20 : H9 E2 = none := by rw [← hE2, upd_ne (Ne.symm nDE)]
      have hLm : ∀ {t : Msg}, t ∈ LL → H9 (hh t) = some (.lst ((recvAt es t.2.2).map V.str)) ∧ hh t ≠ D := fun ht => ⟨(hM9.own _ ht).1, (hM9.own _ ht).2.2⟩
      have hLl : LL.length ≤ 2400 := by
        rw [← hLL]
        exact Nat.le_trans (allMsgs_len (m := 200) (fun x => Nat.le_trans sends_len elen) nodes) (by have := hn.hi; exact Nat.mul_le_mul_right 200 this)
      refine lc_keysT (fun i H => (∀ b o, b ≠ D → H9 b = some o → H b = some o) ∧ H D = some (.frz od (.dT (LL.map fun t => (keyOf t, V.ref (hh t))))) ∧ H E2 = some (.lst (((LL.take i).map fun t => (((recvAt es t.2.2).length : Nat) : Int)).map V.int))) ⟨?_, ?_, upd_same⟩ (fun i H _ hI => hI.2.1) ?_ ?_
      · exact fun b o hb ho => (upd_ne (ne_of_none ((upd_ne hb).trans ho) hE2)).trans ((upd_ne hb).trans ho)
      · exact (upd_ne nDE).trans upd_same
      · rintro k ky v qk H hk hq ⟨h1, h2, h3⟩
        rw [List.getElem?_map] at hk
        obtain ⟨t, ht, ek⟩ := Option.map_eq_some_iff.mp hk
        cases ek
        have htm := List.mem_of_getElem? ht
        obtain ⟨k1, k2⟩ := hLm htm
        have hv : valV (LL.map fun t => (keyOf t, V.ref (hh t))) (keyOf t) = some (.ref (hh t)) := valT_in htm fun u hu e => by
          rw [← hLL] at htm hu
          exact key_inj htm hu e
        refine ⟨rfl, ?_⟩
        dsimp only [tYes]
        rw [if_pos rfl]
        refine ⟨.ref D, rfl, .ref qk, rfl, D, .ref (hh t), rfl, .inr ⟨_, keyOf t, qk, .inr ⟨od, h2⟩, rfl, hq, hv.symm⟩, hh t, _, rfl, .inl (ltI (h1 _ _ k2 k1)), _, h3, ?_, fun b o hb ho => ?_, (upd_ne nDE).trans h2, ?_⟩
        · rw [List.length_map, List.length_map]
          exact Nat.lt_of_le_of_lt (Nat.le_trans (List.length_take_le' _ _) hLl) (by decide)
        · exact (upd_ne (ne_of_none ho hE20)).trans (h1 b o hb ho)
        · rw [upd_same, take_snoc ht, List.map_append, List.map_append, List.length_map]
          rfl
      rintro H10 ⟨h1, h2, h3⟩
      rw [List.length_map, List.take_length] at h3
      refine ⟨h2, ?_⟩
      have s10 : Same H9 (upd H10 D (.dT (LL.map fun t => (keyOf t, V.ref (hh t))))) := fun b o ho => by
        by_cases e : b = D
        · rw [e] at ho ⊢
          rw [upd_same]
          exact hM9.at'.symm.trans ho
        · exact (upd_ne e).trans (h1 b o e ho)
      have hE10 : (upd H10 D (.dT (LL.map fun t => (keyOf t, V.ref (hh t))))) E2 = some (.lst ((LL.map fun t => (((recvAt es t.2.2).length : Nat) : Int)).map V.int)) := (upd_ne (Ne.symm nDE)).trans h3
      generalize upd H10 D (.dT (LL.map fun t => (keyOf t, V.ref (hh t)))) = H11 at s10 hE10 ⊢
      refine ⟨E2, _, rfl, ltI hE10, _, rfl, rfl, false, ?_, iteF ?_⟩
      · rw [cast_sum (f := fun t : Msg => (recvAt es t.2.2).length), cast_sum (f := fun j : Nat => (recvAt es j).length), ← hLL, all_sum (f := fun j => (recvAt es j).length), sumS_eq hn.nodup ok, sndIx_sum]
        simp
      have s011 : Same H5 H11 := s09.trans s10
      -- counts
      refine fun C hC => ?_
      refine ⟨.ref R, rfl, R, _, rfl, ltI (same_new hC _ _ (s011 _ _ hR.at')), for_enum (xs := as.map V.ref) (fun i σ H => Same H11 H ∧ ∃ kvs, H C = some (.dK kvs) ∧ CntAt kvs (Rs.upto nodes es i).sends ∧ kvs.length ≤ i ∧ ∃ y1 y7 z9 z10 z11 z12, σ = [some (.ref S), y1, some (.ref sd), some (.ref Nn), some (.ref R), some (.ref D), some (.ref Ds), y7, some (.ref C), z9, z10, z11, z12]) ?_ ?_ ?_ ?_⟩
      · exact ⟨same_new hC, [], upd_same, fun x => rfl, Nat.le_refl _, _, _, _, _, _, _, rfl⟩
      · exact fun i σ H _ hI => ltI (hI.1 _ _ (s011 _ _ hR.at'))
      · rintro k v σ H0 Tp hv ⟨sm0, kvs, hC0, hcnt, hkl, x1, x7, z9, z10, z11, z12, rfl⟩ hT
        rw [List.getElem?_map] at hv
        obtain ⟨a, ha, rfl⟩ := Option.map_eq_some_iff.mp hv
        have hk : k < es.length := by rw [← hR.len]; exact (List.getElem?_eq_some_iff.mp ha).1
        obtain ⟨e, he⟩ : ∃ e, es[k]? = some e := ⟨_, List.getElem?_eq_getElem hk⟩
        refine ⟨Tp, _, rfl, tpI upd_same, rfl, _, _, rfl, _, _, rfl, rfl, ?_⟩
        have sm := sm0.trans (same_new (o := .tup [.int (k : Nat), .ref a]) hT)
        have hCk := same_new (o := .tup [.int (k : Nat), .ref a]) hT _ _ hC0
        generalize upd H0 Tp (.tup [.int (k : Nat), .ref a]) = H1 at sm hCk ⊢
        have hev := (hR.ev k a e ha he).same (s011.trans sm)
        cases e with
        | snd x rs =>
          obtain ⟨l, hl1, _⟩ := hev
          refine ⟨.ref a, rfl, a, _, 0, .str "send", rfl, rfl, tpI hl1, atI_nat (j := 0) rfl, rfl, true, rfl, iteT ?_⟩
          refine ⟨.ref C, rfl, C, rfl, .inl ⟨_, .inl hCk⟩, .ref a, rfl, a, _, 1, .str x, rfl, rfl, tpI hl1, atI_nat (j := 1) rfl, _, DGet.k (k := Sum.inr x) hCk, _, 1, cnt_get hcnt, rfl, .ref C, rfl, .ref a, rfl, a, _, 1, .str x, rfl, rfl, tpI hl1, atI_nat (j := 1) rfl, C, _, rfl, DPut.k (k := Sum.inr x) hCk (small1000 (by omega)), ?_⟩
          have ecn : (((Rs.upto nodes es k).sends x).length : Nat) + (1 : Int) = ((((Rs.upto nodes es k).sends x).length + 1 : Nat) : Int) := by omega
          have hcn := cnt_next he hcnt
          have sm2 : Same H11 (upd H1 C (.dK (putK kvs (Sum.inr x) (.int ((((Rs.upto nodes es k).sends x).length : Nat) + 1))))) := same_put sm hC
          have hC2 : (upd H1 C (.dK (putK kvs (Sum.inr x) (.int ((((Rs.upto nodes es k).sends x).length : Nat) + 1))))) C = some (.dK (putK kvs (Sum.inr x) (.int ((((Rs.upto nodes es k).sends x).length : Nat) + 1)))) := upd_same
          have hl2 : (upd H1 C (.dK (putK kvs (Sum.inr x) (.int ((((Rs.upto nodes es k).sends x).length : Nat) + 1))))) a = some (.tup [.str "send", .str x, .ref l]) := (upd_ne (ne_of hl1 hCk (by intro z; cases z))).trans hl1
          have hpl := length_putK kvs (Sum.inr x) (.int ((((Rs.upto nodes es k).sends x).length : Nat) + 1))
          have hgv : valV (putK kvs (Sum.inr x) (.int ((((Rs.upto nodes es k).sends x).length : Nat) + 1))) (.inr x) = some (.int ((((Rs.upto nodes es k).sends x).length + 1 : Nat) : Int)) := by rw [valV_put, if_pos rfl, ecn]
          rw [← ecn] at hcn
          generalize putK kvs (Sum.inr x) (.int ((((Rs.upto nodes es k).sends x).length : Nat) + 1)) = kv2 at hcn sm2 hC2 hl2 hpl hgv ⊢
          generalize upd H1 C (.dK kv2) = H2 at sm2 hC2 hl2 ⊢
          refine ⟨.ref Nn, rfl, .ref R, rfl, .ref a, rfl, a, _, 1, .str x, rfl, rfl, tpI hl2, atI_nat (j := 1) rfl, .ref C, rfl, .ref a, rfl, a, _, 1, .str x, rfl, rfl, tpI hl2, atI_nat (j := 1) rfl, C, .int ((((Rs.upto nodes es k).sends x).length + 1 : Nat) : Int), rfl, ?_, by show 2 ≤ sizeLine; decide, fun m hm => ?_⟩
          · rw [← hgv]
            exact DGet.k (k := Sum.inr x) hC2
          refine ⟨Nn, R, m, nodes, as, es, x, _, k, rfl, mvG ((s011.trans sm2).trans (same_new hm)), ok, upd_same, sent_last ok he, fun H3 s3 => ?_⟩
          refine ⟨_, rfl, rfl, false, ?_, iteF ⟨sm2.trans ((same_new hm).trans s3), kv2, s3 _ _ (same_new hm _ _ hC2), hcn, by omega, _, _, _, _, _, _, rfl⟩⟩
          simp
        | opn x s n =>
          obtain ⟨m, hm1, hm2⟩ := hev
          obtain ⟨j, hj1, hj2, hj3⟩ := opened_in ok hk he
          refine ⟨.ref a, rfl, a, _, 0, .str "open", rfl, rfl, tpI hm1, atI_nat (j := 0) rfl, rfl, false, rfl, iteF ?_⟩
          have hxn : x ∈ nodes := by
            obtain ⟨_, _, rs, hs1, hs2⟩ := sends_ok ok (sentAt_mem hj1).2.2.2
            rw [recvAt_snd hs1] at hj2
            exact (recvB_mem hs2 hj2).1
          refine ⟨.ref Nn, rfl, .ref R, rfl, .ref a, rfl, a, _, 2, .ref m, rfl, rfl, tpI hm1, atI_nat (j := 2) rfl, .ref a, rfl, a, _, 1, .str x, rfl, rfl, tpI hm1, atI_nat (j := 1) rfl, Nn, R, m, nodes, as, es, s, x, n, j, rfl, mvG (s011.trans sm), ok, hm2, hj1, hxn, fun H2 s2 => ?_⟩
          rw [valV_ops_at (opens_nd ok) hj3]
          refine ⟨_, rfl, rfl, false, ?_, iteF ?_⟩
          · simp
          -- is_run(nodes, run + [event])
          have sm2 := sm.trans s2
          have ha2 := s2 _ _ hm1
          refine ⟨.ref Nn, rfl, .ref R, rfl, .ref a, rfl, Nat.succ_le_of_lt (by decide), fun L hL => ?_⟩
          have hRl := same_new (o := .lst [.ref a]) hL _ _ ((s011.trans sm2) _ _ hR.at')
          refine ⟨R, L, _, _, rfl, rfl, hRl, upd_same, ?_, fun R2 hR2 => ?_⟩
          · rw [List.length_map, hR.len]
            exact Nat.le_trans (by show es.length + 1 ≤ 1000; omega) (by decide)
          have s3 : Same H2 (upd (upd H2 L (.lst [.ref a])) R2 (.lst (as.map V.ref ++ [.ref a]))) := (same_new hL).trans (same_new hR2)
          have ok2 : ¬ RunOk nodes (es ++ [.opn x s n]) := not_again ok he
          have GG : Given (upd (upd H2 L (.lst [.ref a])) R2 (.lst (as.map V.ref ++ [.ref a]))) Nn R2 nodes (as ++ [a]) (es ++ [.opn x s n]) := by
            have g := mvG ((s011.trans sm2).trans s3)
            refine ⟨g.n, hn, ⟨by rw [upd_same, List.map_append]; rfl, by simp [hR.len], fun i b e h1 h2 => ?_⟩, by simp; omega, fun i y rs h2 => ?_⟩
            · by_cases c : i < es.length
              · rw [List.getElem?_append_left (by rw [hR.len]; exact c)] at h1
                rw [List.getElem?_append_left c] at h2
                exact g.r.ev i b e h1 h2
              · rw [List.getElem?_append_right (by rw [hR.len]; omega), hR.len] at h1
                rw [List.getElem?_append_right (by omega)] at h2
                have : i - es.length = 0 := by
                  have := (List.getElem?_eq_some_iff.mp h2).1
                  simp at this
                  omega
                rw [this] at h1 h2
                cases h1
                cases h2
                exact g.r.ev k a _ ha he
            · by_cases c : i < es.length
              · rw [List.getElem?_append_left c] at h2
                exact texts_of hn ok i y rs h2
              · rw [List.getElem?_append_right (by omega)] at h2
                have : i - es.length = 0 := by
                  have := (List.getElem?_eq_some_iff.mp h2).1
                  simp at this
                  omega
                rw [this] at h2
                cases h2
          refine ⟨Nn, R2, nodes, _, _, rfl, GG, fun z => absurd z ok2, fun _ H3 s4 => ⟨false, rfl, iteF ⟨sm2.trans (s3.trans s4), kvs, s4 _ _ (s3 _ _ (s2 _ _ hCk)), ?_, by omega, _, _, _, _, _, _, rfl⟩⟩⟩
          rw [upto_succ he]
          exact hcnt
      · rintro σ H ⟨sm, kvs, _, _, _, x1, x7, z9, z10, z11, z12, rfl⟩
        exact ⟨sq_move hS5 fun o ho => sm _ _ (s011 _ _ ho), _, _, _, _, _, _, _, _, _, _, _, _, rfl⟩
    · rintro σ H' _
      exact q _
end
end KA

set_option Elab.async false
set_option linter.all false
set_option maxRecDepth 100000
set_option maxHeartbeats 16000000
namespace KA
open PySem PySem.Spec PyProof.Rows L2 L2.Dx Kx
theorem all_mk {l : PySem.W.OpenLaw} {w : World} {K : PySem.W.Frag} {h : Heap} {mg : Str → Option Value} {fa : Addr} (X : K.In h) (G : h.Ns mainGlobals mg) (hfa : mg "law" = some (.ref fa))
    {f_is_nodes : Addr} {od_is_nodes an_is_nodes : Option Addr} {sl_is_nodes : Array (Option Value)} {oc_is_nodes kV_is_nodes dc_is_nodes pm_is_nodes cd_is_nodes ct_is_nodes : Value}
    {f_is_run : Addr} {od_is_run an_is_run : Option Addr} {sl_is_run : Array (Option Value)} {oc_is_run kV_is_run dc_is_run pm_is_run cd_is_run ct_is_run : Value}
    {f_messages_of : Addr} {od_messages_of an_messages_of : Option Addr} {sl_messages_of : Array (Option Value)} {oc_messages_of kV_messages_of dc_messages_of pm_messages_of cd_messages_of ct_messages_of : Value}
    {f_send_index : Addr} {od_send_index an_send_index : Option Addr} {sl_send_index : Array (Option Value)} {oc_send_index kV_send_index dc_send_index pm_send_index cd_send_index ct_send_index : Value}
    {f_open_index : Addr} {od_open_index an_open_index : Option Addr} {sl_open_index : Array (Option Value)} {oc_open_index kV_open_index dc_open_index pm_open_index cd_open_index ct_open_index : Value}
    {f_is_node : Addr} {od_is_node an_is_node : Option Addr} {sl_is_node : Array (Option Value)} {oc_is_node kV_is_node dc_is_node pm_is_node cd_is_node ct_is_node : Value}
    {f_is_receivers : Addr} {od_is_receivers an_is_receivers : Option Addr} {sl_is_receivers : Array (Option Value)} {oc_is_receivers kV_is_receivers dc_is_receivers pm_is_receivers cd_is_receivers ct_is_receivers : Value}
    {f_find_send : Addr} {od_find_send an_find_send : Option Addr} {sl_find_send : Array (Option Value)} {oc_find_send kV_find_send dc_find_send pm_find_send cd_find_send ct_find_send : Value}
    {f_scan_run : Addr} {od_scan_run an_scan_run : Option Addr} {sl_scan_run : Array (Option Value)} {oc_scan_run kV_scan_run dc_scan_run pm_scan_run cd_scan_run ct_scan_run : Value}
    {f_check_nodes : Addr} {od_check_nodes an_check_nodes : Option Addr} {sl_check_nodes : Array (Option Value)} {oc_check_nodes kV_check_nodes dc_check_nodes pm_check_nodes cd_check_nodes ct_check_nodes : Value}
    {f_check_run : Addr} {od_check_run an_check_run : Option Addr} {sl_check_run : Array (Option Value)} {oc_check_run kV_check_run dc_check_run pm_check_run cd_check_run ct_check_run : Value}
    {f_check_node : Addr} {od_check_node an_check_node : Option Addr} {sl_check_node : Array (Option Value)} {oc_check_node kV_check_node dc_check_node pm_check_node cd_check_node ct_check_node : Value}
    {f_check_message : Addr} {od_check_message an_check_message : Option Addr} {sl_check_message : Array (Option Value)} {oc_check_message kV_check_message dc_check_message pm_check_message cd_check_message ct_check_message : Value}
    {f__law_seed : Addr} {od__law_seed an__law_seed : Option Addr} {sl__law_seed : Array (Option Value)} {oc__law_seed kV__law_seed dc__law_seed pm__law_seed cd__law_seed ct__law_seed : Value}
    {f__law_next : Addr} {od__law_next an__law_next : Option Addr} {sl__law_next : Array (Option Value)} {oc__law_next kV__law_next dc__law_next pm__law_next cd__law_next ct__law_next : Value}
    {f__law_large : Addr} {od__law_large an__law_large : Option Addr} {sl__law_large : Array (Option Value)} {oc__law_large kV__law_large dc__law_large pm__law_large cd__law_large ct__law_large : Value}
    {f_law : Addr} {od_law an_law : Option Addr} {sl_law : Array (Option Value)} {oc_law kV_law dc_law pm_law cd_law ct_law : Value}
    (a_is_nodes : PySem.W.nsIn K mainGlobals "is_nodes" = some (some (.ref f_is_nodes))) (l_is_nodes : K.lookup f_is_nodes = some ⟨oc_is_nodes, od_is_nodes, .func (PySem.W.fnOf "is_nodes" "is_nodes" (defArgs s_is_nodes) (defBody s_is_nodes) (defScope s_is_nodes) .none kV_is_nodes dc_is_nodes pm_is_nodes an_is_nodes cd_is_nodes ct_is_nodes), sl_is_nodes⟩) (c_is_nodes : PySem.W.codeIn K cd_is_nodes "is_nodes" = true) (k_is_nodes : PySem.W.keepIn K (.ref f_is_nodes) = true)
    (a_is_run : PySem.W.nsIn K mainGlobals "is_run" = some (some (.ref f_is_run))) (l_is_run : K.lookup f_is_run = some ⟨oc_is_run, od_is_run, .func (PySem.W.fnOf "is_run" "is_run" (defArgs s_is_run) (defBody s_is_run) (defScope s_is_run) .none kV_is_run dc_is_run pm_is_run an_is_run cd_is_run ct_is_run), sl_is_run⟩) (c_is_run : PySem.W.codeIn K cd_is_run "is_run" = true) (k_is_run : PySem.W.keepIn K (.ref f_is_run) = true)
    (a_messages_of : PySem.W.nsIn K mainGlobals "messages_of" = some (some (.ref f_messages_of))) (l_messages_of : K.lookup f_messages_of = some ⟨oc_messages_of, od_messages_of, .func (PySem.W.fnOf "messages_of" "messages_of" (defArgs s_messages_of) (defBody s_messages_of) (defScope s_messages_of) .none kV_messages_of dc_messages_of pm_messages_of an_messages_of cd_messages_of ct_messages_of), sl_messages_of⟩) (c_messages_of : PySem.W.codeIn K cd_messages_of "messages_of" = true) (k_messages_of : PySem.W.keepIn K (.ref f_messages_of) = true)
    (a_send_index : PySem.W.nsIn K mainGlobals "send_index" = some (some (.ref f_send_index))) (l_send_index : K.lookup f_send_index = some ⟨oc_send_index, od_send_index, .func (PySem.W.fnOf "send_index" "send_index" (defArgs s_send_index) (defBody s_send_index) (defScope s_send_index) .none kV_send_index dc_send_index pm_send_index an_send_index cd_send_index ct_send_index), sl_send_index⟩) (c_send_index : PySem.W.codeIn K cd_send_index "send_index" = true) (k_send_index : PySem.W.keepIn K (.ref f_send_index) = true)
    (a_open_index : PySem.W.nsIn K mainGlobals "open_index" = some (some (.ref f_open_index))) (l_open_index : K.lookup f_open_index = some ⟨oc_open_index, od_open_index, .func (PySem.W.fnOf "open_index" "open_index" (defArgs s_open_index) (defBody s_open_index) (defScope s_open_index) .none kV_open_index dc_open_index pm_open_index an_open_index cd_open_index ct_open_index), sl_open_index⟩) (c_open_index : PySem.W.codeIn K cd_open_index "open_index" = true) (k_open_index : PySem.W.keepIn K (.ref f_open_index) = true)
    (a_is_node : PySem.W.nsIn K mainGlobals "is_node" = some (some (.ref f_is_node))) (l_is_node : K.lookup f_is_node = some ⟨oc_is_node, od_is_node, .func (PySem.W.fnOf "is_node" "is_node" (defArgs s_is_node) (defBody s_is_node) (defScope s_is_node) .none kV_is_node dc_is_node pm_is_node an_is_node cd_is_node ct_is_node), sl_is_node⟩) (c_is_node : PySem.W.codeIn K cd_is_node "is_node" = true) (k_is_node : PySem.W.keepIn K (.ref f_is_node) = true)
    (a_is_receivers : PySem.W.nsIn K mainGlobals "is_receivers" = some (some (.ref f_is_receivers))) (l_is_receivers : K.lookup f_is_receivers = some ⟨oc_is_receivers, od_is_receivers, .func (PySem.W.fnOf "is_receivers" "is_receivers" (defArgs s_is_receivers) (defBody s_is_receivers) (defScope s_is_receivers) .none kV_is_receivers dc_is_receivers pm_is_receivers an_is_receivers cd_is_receivers ct_is_receivers), sl_is_receivers⟩) (c_is_receivers : PySem.W.codeIn K cd_is_receivers "is_receivers" = true) (k_is_receivers : PySem.W.keepIn K (.ref f_is_receivers) = true)
    (a_find_send : PySem.W.nsIn K mainGlobals "find_send" = some (some (.ref f_find_send))) (l_find_send : K.lookup f_find_send = some ⟨oc_find_send, od_find_send, .func (PySem.W.fnOf "find_send" "find_send" (defArgs s_find_send) (defBody s_find_send) (defScope s_find_send) .none kV_find_send dc_find_send pm_find_send an_find_send cd_find_send ct_find_send), sl_find_send⟩) (c_find_send : PySem.W.codeIn K cd_find_send "find_send" = true) (k_find_send : PySem.W.keepIn K (.ref f_find_send) = true)
    (a_scan_run : PySem.W.nsIn K mainGlobals "scan_run" = some (some (.ref f_scan_run))) (l_scan_run : K.lookup f_scan_run = some ⟨oc_scan_run, od_scan_run, .func (PySem.W.fnOf "scan_run" "scan_run" (defArgs s_scan_run) (defBody s_scan_run) (defScope s_scan_run) .none kV_scan_run dc_scan_run pm_scan_run an_scan_run cd_scan_run ct_scan_run), sl_scan_run⟩) (c_scan_run : PySem.W.codeIn K cd_scan_run "scan_run" = true) (k_scan_run : PySem.W.keepIn K (.ref f_scan_run) = true)
    (a_check_nodes : PySem.W.nsIn K mainGlobals "check_nodes" = some (some (.ref f_check_nodes))) (l_check_nodes : K.lookup f_check_nodes = some ⟨oc_check_nodes, od_check_nodes, .func (PySem.W.fnOf "check_nodes" "check_nodes" (defArgs s_check_nodes) (defBody s_check_nodes) (defScope s_check_nodes) .none kV_check_nodes dc_check_nodes pm_check_nodes an_check_nodes cd_check_nodes ct_check_nodes), sl_check_nodes⟩) (c_check_nodes : PySem.W.codeIn K cd_check_nodes "check_nodes" = true) (k_check_nodes : PySem.W.keepIn K (.ref f_check_nodes) = true)
    (a_check_run : PySem.W.nsIn K mainGlobals "check_run" = some (some (.ref f_check_run))) (l_check_run : K.lookup f_check_run = some ⟨oc_check_run, od_check_run, .func (PySem.W.fnOf "check_run" "check_run" (defArgs s_check_run) (defBody s_check_run) (defScope s_check_run) .none kV_check_run dc_check_run pm_check_run an_check_run cd_check_run ct_check_run), sl_check_run⟩) (c_check_run : PySem.W.codeIn K cd_check_run "check_run" = true) (k_check_run : PySem.W.keepIn K (.ref f_check_run) = true)
    (a_check_node : PySem.W.nsIn K mainGlobals "check_node" = some (some (.ref f_check_node))) (l_check_node : K.lookup f_check_node = some ⟨oc_check_node, od_check_node, .func (PySem.W.fnOf "check_node" "check_node" (defArgs s_check_node) (defBody s_check_node) (defScope s_check_node) .none kV_check_node dc_check_node pm_check_node an_check_node cd_check_node ct_check_node), sl_check_node⟩) (c_check_node : PySem.W.codeIn K cd_check_node "check_node" = true) (k_check_node : PySem.W.keepIn K (.ref f_check_node) = true)
    (a_check_message : PySem.W.nsIn K mainGlobals "check_message" = some (some (.ref f_check_message))) (l_check_message : K.lookup f_check_message = some ⟨oc_check_message, od_check_message, .func (PySem.W.fnOf "check_message" "check_message" (defArgs s_check_message) (defBody s_check_message) (defScope s_check_message) .none kV_check_message dc_check_message pm_check_message an_check_message cd_check_message ct_check_message), sl_check_message⟩) (c_check_message : PySem.W.codeIn K cd_check_message "check_message" = true) (k_check_message : PySem.W.keepIn K (.ref f_check_message) = true)
    (a__law_seed : PySem.W.nsIn K mainGlobals "_law_seed" = some (some (.ref f__law_seed))) (l__law_seed : K.lookup f__law_seed = some ⟨oc__law_seed, od__law_seed, .func (PySem.W.fnOf "_law_seed" "_law_seed" (defArgs s__law_seed) (defBody s__law_seed) (defScope s__law_seed) .none kV__law_seed dc__law_seed pm__law_seed an__law_seed cd__law_seed ct__law_seed), sl__law_seed⟩) (c__law_seed : PySem.W.codeIn K cd__law_seed "_law_seed" = true) (k__law_seed : PySem.W.keepIn K (.ref f__law_seed) = true)
    (a__law_next : PySem.W.nsIn K mainGlobals "_law_next" = some (some (.ref f__law_next))) (l__law_next : K.lookup f__law_next = some ⟨oc__law_next, od__law_next, .func (PySem.W.fnOf "_law_next" "_law_next" (defArgs s__law_next) (defBody s__law_next) (defScope s__law_next) .none kV__law_next dc__law_next pm__law_next an__law_next cd__law_next ct__law_next), sl__law_next⟩) (c__law_next : PySem.W.codeIn K cd__law_next "_law_next" = true) (k__law_next : PySem.W.keepIn K (.ref f__law_next) = true)
    (a__law_large : PySem.W.nsIn K mainGlobals "_law_large" = some (some (.ref f__law_large))) (l__law_large : K.lookup f__law_large = some ⟨oc__law_large, od__law_large, .func (PySem.W.fnOf "_law_large" "_law_large" (defArgs s__law_large) (defBody s__law_large) (defScope s__law_large) .none kV__law_large dc__law_large pm__law_large an__law_large cd__law_large ct__law_large), sl__law_large⟩) (c__law_large : PySem.W.codeIn K cd__law_large "_law_large" = true) (k__law_large : PySem.W.keepIn K (.ref f__law_large) = true)
    (a_law : PySem.W.nsIn K mainGlobals "law" = some (some (.ref f_law))) (l_law : K.lookup f_law = some ⟨oc_law, od_law, .func (PySem.W.fnOf "law" "law" (defArgs s_law) (defBody s_law) (defScope s_law) .none kV_law dc_law pm_law an_law cd_law ct_law), sl_law⟩) (c_law : PySem.W.codeIn K cd_law "law" = true) (k_law : PySem.W.keepIn K (.ref f_law) = true)
    (z_isinstance : PySem.W.nsIn K mainGlobals "isinstance" = some none) (z_list : PySem.W.nsIn K mainGlobals "list" = some none) (z_str : PySem.W.nsIn K mainGlobals "str" = some none) (z_len : PySem.W.nsIn K mainGlobals "len" = some none) (z_tuple : PySem.W.nsIn K mainGlobals "tuple" = some none) (z_int : PySem.W.nsIn K mainGlobals "int" = some none) (z_bool : PySem.W.nsIn K mainGlobals "bool" = some none) (z_dict : PySem.W.nsIn K mainGlobals "dict" = some none) (z_sum : PySem.W.nsIn K mainGlobals "sum" = some none) (z_max : PySem.W.nsIn K mainGlobals "max" = some none) (z_min : PySem.W.nsIn K mainGlobals "min" = some none) (z_range : PySem.W.nsIn K mainGlobals "range" = some none) (z_enumerate : PySem.W.nsIn K mainGlobals "enumerate" = some none) (z_sorted : PySem.W.nsIn K mainGlobals "sorted" = some none) (z_zip : PySem.W.nsIn K mainGlobals "zip" = some none) (z_reversed : PySem.W.nsIn K mainGlobals "reversed" = some none) (z_abs : PySem.W.nsIn K mainGlobals "abs" = some none) (z_repr : PySem.W.nsIn K mainGlobals "repr" = some none) (z_set : PySem.W.nsIn K mainGlobals "set" = some none) (z_any : PySem.W.nsIn K mainGlobals "any" = some none) (z_all : PySem.W.nsIn K mainGlobals "all" = some none) :
    ∃ fd : FuncData, (∀ (s : Shared) (v : Value), BindsTo s fd ⟨[v], []⟩ [("script", v)]) ∧ ∀ base : Heap, K.In base → base.Ns mainGlobals mg → FnOk l.prog w K mg base CX0 5 fa fd ["script"] (sp_law K) := by
  have e := hfa.symm.trans (PySem.W.mg_of X G a_law)
  cases e
  refine ⟨PySem.W.fnOf "law" "law" (defArgs s_law) (defBody s_law) (defScope s_law) .none kV_law dc_law pm_law an_law cd_law ct_law, fun s v => .of_eq rfl, fun base _ _ => ?_⟩
  exact ok_law (P := l.prog) (w := w) (base := base) ({ f_is_nodes := _, fd_is_nodes := _, F_is_nodes := fun_mk (st := s_is_nodes) l_is_nodes c_is_nodes k_is_nodes, M_is_nodes := PySem.W.mg_of X G a_is_nodes, f_is_run := _, fd_is_run := _, F_is_run := fun_mk (st := s_is_run) l_is_run c_is_run k_is_run, M_is_run := PySem.W.mg_of X G a_is_run, f_messages_of := _, fd_messages_of := _, F_messages_of := fun_mk (st := s_messages_of) l_messages_of c_messages_of k_messages_of, M_messages_of := PySem.W.mg_of X G a_messages_of, f_send_index := _, fd_send_index := _, F_send_index := fun_mk (st := s_send_index) l_send_index c_send_index k_send_index, M_send_index := PySem.W.mg_of X G a_send_index, f_open_index := _, fd_open_index := _, F_open_index := fun_mk (st := s_open_index) l_open_index c_open_index k_open_index, M_open_index := PySem.W.mg_of X G a_open_index, f_is_node := _, fd_is_node := _, F_is_node := fun_mk (st := s_is_node) l_is_node c_is_node k_is_node, M_is_node := PySem.W.mg_of X G a_is_node, f_is_receivers := _, fd_is_receivers := _, F_is_receivers := fun_mk (st := s_is_receivers) l_is_receivers c_is_receivers k_is_receivers, M_is_receivers := PySem.W.mg_of X G a_is_receivers, f_find_send := _, fd_find_send := _, F_find_send := fun_mk (st := s_find_send) l_find_send c_find_send k_find_send, M_find_send := PySem.W.mg_of X G a_find_send, f_scan_run := _, fd_scan_run := _, F_scan_run := fun_mk (st := s_scan_run) l_scan_run c_scan_run k_scan_run, M_scan_run := PySem.W.mg_of X G a_scan_run, f_check_nodes := _, fd_check_nodes := _, F_check_nodes := fun_mk (st := s_check_nodes) l_check_nodes c_check_nodes k_check_nodes, M_check_nodes := PySem.W.mg_of X G a_check_nodes, f_check_run := _, fd_check_run := _, F_check_run := fun_mk (st := s_check_run) l_check_run c_check_run k_check_run, M_check_run := PySem.W.mg_of X G a_check_run, f_check_node := _, fd_check_node := _, F_check_node := fun_mk (st := s_check_node) l_check_node c_check_node k_check_node, M_check_node := PySem.W.mg_of X G a_check_node, f_check_message := _, fd_check_message := _, F_check_message := fun_mk (st := s_check_message) l_check_message c_check_message k_check_message, M_check_message := PySem.W.mg_of X G a_check_message, f__law_seed := _, fd__law_seed := _, F__law_seed := fun_mk (st := s__law_seed) l__law_seed c__law_seed k__law_seed, M__law_seed := PySem.W.mg_of X G a__law_seed, f__law_next := _, fd__law_next := _, F__law_next := fun_mk (st := s__law_next) l__law_next c__law_next k__law_next, M__law_next := PySem.W.mg_of X G a__law_next, f__law_large := _, fd__law_large := _, F__law_large := fun_mk (st := s__law_large) l__law_large c__law_large k__law_large, M__law_large := PySem.W.mg_of X G a__law_large, f_law := _, fd_law := _, F_law := fun_mk (st := s_law) l_law c_law k_law, M_law := PySem.W.mg_of X G a_law, m_isinstance := PySem.W.mg_none_of X G z_isinstance, m_list := PySem.W.mg_none_of X G z_list, m_str := PySem.W.mg_none_of X G z_str, m_len := PySem.W.mg_none_of X G z_len, m_tuple := PySem.W.mg_none_of X G z_tuple, m_int := PySem.W.mg_none_of X G z_int, m_bool := PySem.W.mg_none_of X G z_bool, m_dict := PySem.W.mg_none_of X G z_dict, m_sum := PySem.W.mg_none_of X G z_sum, m_max := PySem.W.mg_none_of X G z_max, m_min := PySem.W.mg_none_of X G z_min, m_range := PySem.W.mg_none_of X G z_range, m_enumerate := PySem.W.mg_none_of X G z_enumerate, m_sorted := PySem.W.mg_none_of X G z_sorted, m_zip := PySem.W.mg_none_of X G z_zip, m_reversed := PySem.W.mg_none_of X G z_reversed, m_abs := PySem.W.mg_none_of X G z_abs, m_repr := PySem.W.mg_none_of X G z_repr, m_set := PySem.W.mg_none_of X G z_set, m_any := PySem.W.mg_none_of X G z_any, m_all := PySem.W.mg_none_of X G z_all } : Txt K mg)
end KA
open PySem PySem.W PyProof.Rows
set_option maxHeartbeats 0 in
theorem PySem.Challenge.cw_waitlists_k06_whole_large_runs_holds : PySem.Challenge.rw_waitlists_k06_whole_large_runs.Holds := by
  w_on; o_law; k_head; (case hw => w_witness2)
  k_fill
  refine L2.walk_of (l := PySem.Challenge.rw_waitlists_k06_whole_large_runs) (n := 63) (k := 5) (x := "script") (CX := fun _ => L2.CX0) (sp := fun w => KA.sp_law _) rfl (by decide) rfl ⟨rfl, by decide, by decide⟩ (fun w h Y => PySem.W.kIn_of Y) ?F (fun _ _ a ns hl _ hS => ⟨a, ns, rfl, hS, hl, fun _ => rfl⟩) (fun _ _ _ _ _ h => h)
  case F =>
    intro w mg fa h KX G hmg
    refine' KA.all_mk KX G hmg ?a_is_nodes ?l_is_nodes ?c_is_nodes ?k_is_nodes ?a_is_run ?l_is_run ?c_is_run ?k_is_run ?a_messages_of ?l_messages_of ?c_messages_of ?k_messages_of ?a_send_index ?l_send_index ?c_send_index ?k_send_index ?a_open_index ?l_open_index ?c_open_index ?k_open_index ?a_is_node ?l_is_node ?c_is_node ?k_is_node ?a_is_receivers ?l_is_receivers ?c_is_receivers ?k_is_receivers ?a_find_send ?l_find_send ?c_find_send ?k_find_send ?a_scan_run ?l_scan_run ?c_scan_run ?k_scan_run ?a_check_nodes ?l_check_nodes ?c_check_nodes ?k_check_nodes ?a_check_run ?l_check_run ?c_check_run ?k_check_run ?a_check_node ?l_check_node ?c_check_node ?k_check_node ?a_check_message ?l_check_message ?c_check_message ?k_check_message ?a__law_seed ?l__law_seed ?c__law_seed ?k__law_seed ?a__law_next ?l__law_next ?c__law_next ?k__law_next ?a__law_large ?l__law_large ?c__law_large ?k__law_large ?a_law ?l_law ?c_law ?k_law ?z_isinstance ?z_list ?z_str ?z_len ?z_tuple ?z_int ?z_bool ?z_dict ?z_sum ?z_max ?z_min ?z_range ?z_enumerate ?z_sorted ?z_zip ?z_reversed ?z_abs ?z_repr ?z_set ?z_any ?z_all
    (case a_is_nodes => k_is); (case l_is_nodes => k_is); (case c_is_nodes => k_is); (case k_is_nodes => k_is); (case a_is_run => k_is); (case l_is_run => k_is); (case c_is_run => k_is); (case k_is_run => k_is); (case a_messages_of => k_is); (case l_messages_of => k_is); (case c_messages_of => k_is); (case k_messages_of => k_is); (case a_send_index => k_is); (case l_send_index => k_is); (case c_send_index => k_is); (case k_send_index => k_is); (case a_open_index => k_is); (case l_open_index => k_is); (case c_open_index => k_is); (case k_open_index => k_is); (case a_is_node => k_is); (case l_is_node => k_is); (case c_is_node => k_is); (case k_is_node => k_is); (case a_is_receivers => k_is); (case l_is_receivers => k_is); (case c_is_receivers => k_is); (case k_is_receivers => k_is); (case a_find_send => k_is); (case l_find_send => k_is); (case c_find_send => k_is); (case k_find_send => k_is); (case a_scan_run => k_is); (case l_scan_run => k_is); (case c_scan_run => k_is); (case k_scan_run => k_is); (case a_check_nodes => k_is); (case l_check_nodes => k_is); (case c_check_nodes => k_is); (case k_check_nodes => k_is); (case a_check_run => k_is); (case l_check_run => k_is); (case c_check_run => k_is); (case k_check_run => k_is); (case a_check_node => k_is); (case l_check_node => k_is); (case c_check_node => k_is); (case k_check_node => k_is); (case a_check_message => k_is); (case l_check_message => k_is); (case c_check_message => k_is); (case k_check_message => k_is); (case a__law_seed => k_is); (case l__law_seed => k_is); (case c__law_seed => k_is); (case k__law_seed => k_is); (case a__law_next => k_is); (case l__law_next => k_is); (case c__law_next => k_is); (case k__law_next => k_is); (case a__law_large => k_is); (case l__law_large => k_is); (case c__law_large => k_is); (case k__law_large => k_is); (case a_law => k_is); (case l_law => k_is); (case c_law => k_is); (case k_law => k_is); (case z_isinstance => k_is); (case z_list => k_is); (case z_str => k_is); (case z_len => k_is); (case z_tuple => k_is); (case z_int => k_is); (case z_bool => k_is); (case z_dict => k_is); (case z_sum => k_is); (case z_max => k_is); (case z_min => k_is); (case z_range => k_is); (case z_enumerate => k_is); (case z_sorted => k_is); (case z_zip => k_is); (case z_reversed => k_is); (case z_abs => k_is); (case z_repr => k_is); (case z_set => k_is); (case z_any => k_is); (case z_all => k_is)
