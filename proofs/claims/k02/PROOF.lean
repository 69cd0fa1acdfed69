import PyProof.Rows.All
import Wide.All
import OpenK.AllK
import Wide.FinOn
import HandS.Dict
import HandS.Comp
import HandS.Iter
import KE.GoesEnumKw
import HandS.DictComp
import HandS.IsInst
import HandS.List
import HandS.Wide
import HandS.Words
import HandS.ForMost
import HandS.StrMore
import HandS.TupLen
import HandS.Flow
import PyProof.Rows.StrMeet
import PyProof.ReprRoads
import PyProof.ReprLen
import HandS.Ends
import HandS.Conv
import HandS.More
import KE.SortData
import KE.KDictPairs
import KE.KDictCopyH
import PySem.Challenge.RW_waitlists_k02_messages_and_indices
set_option Elab.async false
set_option linter.all false
set_option maxRecDepth 100000
set_option maxHeartbeats 4000000
namespace L2.Dx
open PySem PySem.Spec PyProof.Rows L2
section
variable {X : Cx} {pins : List (Addr × Obj)} {σ : St} {H H' : Hp} {s : Shared} {a : Addr} {y v : V} {u r : Value} {E : Value → Shared → Prop} {Q : Unit → Shared → Prop}
/-- a dict's item is stored, by a comprehension: keys of either kind -/
theorem put_ok (hu : X.A.units + 1 < cLine) (I : Inv X pins σ H s) (g : DPut H a y v H') (ry : RelV y u) (rv : RelV v r) (h : ∀ s', Inv X pins σ H' s' → Q () s') : wpAny (model X.prog X.w) X.A (dictSet a u r) Q E s := by
  rcases g with ⟨kvs, k, ea, rfl, hl0, rfl⟩ | ⟨kvs, k, b, ea, rfl, eb, hl0, rfl⟩
  · have hl1 := length_putK kvs k v
    obtain ⟨hz, hsys, cs, rel, dct⟩ := dk_of I.hok ea
    have hz' : cs.length ≤ sizeLine := rel.length ▸ hz
    refine wpAny_dictSet_pairs (hsz := hz') (kV_is ry) dct fun hp' dct' same => h _ (d_write I (by rw [ea]; exact True.intro) same ?_ (dk_new (by omega) hsys (rel.put k rv) dct'))
    obtain ⟨q, _, _, hq, _⟩ := dct'
    exact ⟨q, hq⟩
  · have hl1 := length_putK kvs k v
    cases (show u = Value.ref b from ry)
    obtain ⟨hz, hsys, cs, rel, dct⟩ := dt_of I.hok ea
    have hz' : cs.length ≤ sizeLine := Paired.length rel ▸ hz
    refine wpAny_dictSet_heap (hsz := hz') (show X.A.units < cLine by omega) (key_of I.hok eb) dct fun hp' dct' same => h _ ?_
    obtain ⟨q, es, ep, hq, q2, q3, q4, _, q5⟩ := dct'
    refine d_write I (by rw [ea]; exact True.intro) same ⟨q, hq⟩ ⟨by omega, hsys, _, KT.keeps (rel.put k eb rv) (fun c ys ec => ?_), q, es, ep, hq, q2, q3, q4, q5⟩
    exact (upd_ne (ne_of ec ea (by intro z; cases z))).trans ec
end

/-! enumerate(l, start=k) -/
/-- the list at a from its first item, each item in a new pair with the count k, k + 1, .. -/
def IteS (K : PySem.W.Frag) (a : Addr) (k : Int) : It where
  go := fun i H => ∃ (xs : List V) (x : V), SqL K H a xs ∧ xs[i]? = some x
  yld := fun i H v H' => ∃ T x, v = .ref T ∧ H T = none ∧ H' = upd H T (.tup [.int (k + (i : Nat)), x]) ∧ ∀ xs, SqL K H a xs → xs[i]? = some x
  stop := fun i H => ∃ xs : List V, SqL K H a xs ∧ xs.length = i
theorem turn_enumS {P : Program} {w : World} {K : PySem.W.Frag} {elts : List Expr} {kk : Nat} {tpos : Pos} (a e it : Addr) (k : Int) :
    Turn P w K (.Tuple elts kk tpos) (IteS K a k) [e, it] e (fun i h => (∃ old, IsEnum h e it (k + (i : Nat)) old) ∧ h.IsListIter it a i ∧ e ≠ it ∧ a ≠ it ∧ a ≠ e) where
  mem := List.mem_cons_self
  obj := by
    rintro i h ⟨⟨old, he⟩, ⟨o, ho, _, hd⟩, _⟩ b hb
    rcases List.mem_cons.mp hb with rfl | hb
    · exact ⟨_, he, fun _ q => nomatch q⟩
    · cases List.mem_singleton.mp hb
      exact ⟨o, ho, fun _ q => nomatch hd.symm.trans q⟩
  keep := by
    rintro i h h' ⟨⟨old, he⟩, hi, hne⟩ kp
    exact ⟨⟨old, kp e (by simp) _ he⟩, hi.at fun o q => kp it (by simp) o q, hne⟩
  item := by
    intro X hP hw hK hc i pins s σ H E I hf st hg
    subst hP hw hK
    obtain ⟨⟨old, he⟩, hit, hne, hai, hae⟩ := st
    obtain ⟨xs, x, hq, hx⟩ := hg
    obtain ⟨its, rv, p, hz⟩ := I.list hq
    obtain ⟨u, hu, ru⟩ := rv.get hx
    have le : e < s.heap.objs.size := Heap.lt_size he
    have li : it < s.heap.objs.size := hit.elim fun _ q => Heap.lt_size q.1
    have hn : i < its.toArray.size := by
      have := (List.getElem?_eq_some_iff.mp hu).1
      simpa using this
    have hE : e ∉ [it, a] := by simp [hne, Ne.symm hae]
    refine wpAny_pyNext_enum_itemC (Draws.list (A := X.A.in1) (I.ok.hd hc) it a hai its.toArray) he ⟨hit, p.isList⟩ hn hne hE fun u' h' tk hu' ho st' hT hsz hk => ?_
    have eu : u' = u := Option.some.inj (hu'.symm.trans (by simpa using hu))
    subst eu
    refine ⟨_, rfl, wpAny_letOwnedTupleGo_enum (s := { s with heap := h', toks := tk + 1 }) ho fun h2 he2 sb => ?_⟩
    have nw : h2.get? s.heap.objs.size = some { cls := .type "tuple", data := .seq #[.int (k + (i : Nat)) tk, u'] } := (sb.2 _ (Nat.ne_of_gt le)).trans hT
    have keepAll : ∀ b ob, b ∉ [e, it] → s.heap.get? b = some ob → h2.get? b = some ob := fun b ob hb q =>
      (sb.2 b (fun z => hb (by rw [z]; simp))).trans (hk b ob (fun z => hb (by rw [z]; simp)) (fun z => hb (by rw [z]; simp)) q)
    have I1 : Inv X pins σ (upd H s.heap.objs.size (.tup [.int (k + (i : Nat)), x])) { s with heap := h2, toks := tk + 1 } :=
      I.turnedNew (ch := [e, it]) keepAll hf (Nat.le_refl _) ⟨(by decide : 2 ≤ sizeLine), [.int (k + (i : Nat)) tk, u'], .cons ⟨_, rfl⟩ (.cons ru .nil), ⟨_, nw, rfl, _, rfl⟩⟩
    have hnone : H s.heap.objs.size = none := I.hok.fresh (Nat.le_refl _)
    refine ⟨.ref s.heap.objs.size, _, I1, rfl, ⟨_, x, rfl, hnone, rfl, fun ys hy => (I.list_inj hy hq) ▸ hx⟩, ⟨⟨u', ?_⟩, st'.1.at fun o q => (sb.2 it (Ne.symm hne)).trans q, hne, hai, hae⟩, fun b hb => ?_⟩
    · rw [show (k + ((i + 1 : Nat) : Int)) = k + (i : Nat) + 1 by omega]
      exact he2
    · have lb : b < s.heap.objs.size := by
        rcases List.mem_cons.mp hb with rfl | hb
        · exact le
        · cases List.mem_singleton.mp hb
          exact li
      exact (upd_ne (Nat.ne_of_lt lb)).trans (hf b hb).1
  done := by
    intro X hP hw hK hc i pins s σ H E I hf st hg
    subst hP hw hK
    obtain ⟨⟨old, he⟩, hit, hne, hai, hae⟩ := st
    obtain ⟨xs, hq, hx⟩ := hg
    obtain ⟨its, rv, p, hz⟩ := I.list hq
    obtain ⟨f0, f1, f2, f3, f4, f5⟩ := hf it (by simp)
    have hl := rv.length
    have en : i = its.toArray.size := by simp; omega
    rw [en] at hit
    exact wpAny_pyNext_enum_endD (Draws.list (A := X.A.in1) (I.ok.hd hc) it a hai its.toArray) he ⟨hit, p.isList⟩ fun h' eb => ⟨rfl, I.turned (t' := s.toks) (fun b o hb q => eb b o hb q) f0 f1 f3 f4 f5⟩
  self := fun A i s Q E st h => st.1.elim fun _ he => wpAny_pyIter_enum he h
end L2.Dx

set_option Elab.async false
set_option linter.all false
set_option maxRecDepth 100000
set_option maxHeartbeats 4000000
namespace L2.Dx
open PySem PySem.Spec PyProof.Rows L2
theorem callTyKw {M : Model} {A : Around} {E : Value → Shared → Prop} {s : Shared} {pos : Pos} {T : String} {first : List Value} {args : List (Bool × Sem Value)} {kws : List (Option Str × Sem Value)} {Q : Value → Shared → Prop}
    (hp : args.any (·.1) = false) (hk : kws.any (·.1.isNone) = false) (h : wpAny M A (evalArgs (.type T) true args kws) (fun a s₁ => wpAny M A (call (.type T) (first ++ a.pos) a.kw) Q E s₁) E s) : wpAny M A (callWith pos (.type T) first args kws) Q E s := by
  unfold callWith
  refine wpAny_bind (wpAny_holding (wpAny_mono h (fun a s₁ h₁ => wpAny_bind (wpAny_standAt ?_)) fun _ _ z => z))
  simp only [hp, hk, Bool.or_false]
  exact wpAny_bind (wpAny_pure (wpAny_bind (wpAny_mono h₁ (fun _ _ hr => wpAny_bind (wpAny_holding (wpAny_point (wpAny_pure hr)))) fun _ _ z => z)))
def iEnumS (K : PySem.W.Frag) (k : Int) (ta : TA) : TI := fun σ H R => ta σ H fun vs H1 => ∃ a xs, vs = [.ref a] ∧ SqL K H1 a xs ∧ R (IteS K a k) H1
theorem pi_enumS {X : Cx} {e : Expr} {ta : TA} {p pos tpos p2 kp : Pos} {elts : List Expr} {kk : Nat} {k : Int} {j : Nat} (k0 : -(2 ^ 63) ≤ k) (k1 : k < 2 ^ 63) (hg : Gl X "enumerate") (hm : X.mg "enumerate" = none) (ha : PA X [e] ta)
    (hs : starEach [e] X.env = [(false, eval e X.env)] := by rfl) :
    PI X (.Tuple elts kk tpos) (.Call (.Name "enumerate" p) [e] [⟨some (Str.ofString "start"), .Constant (.int k) j p2, kp⟩] pos) (iEnumS X.K k ta) := by
  refine ⟨fun pins s σ H R I h => ?_⟩
  have hb : backTo pos (starEach [e] X.env) = (false, eval e X.env) :: [] := by rw [hs]; rfl
  refine wpAny_Call_Name_kw (ld_blt I hg hm boot_enumerate (callTyKw (by rw [hs]; rfl) rfl ?_))
  have step := thn (ha.run pos pins s σ H _ I h) (Q' := fun us s1 => wpAny (model X.prog X.w) X.A (evalAll ((backToKw pos (keywordEach [⟨some (Str.ofString "start"), .Constant (.int k) j p2, kp⟩] X.env)).map (·.2)))
      (fun kvs s₂ => wpAny (model X.prog X.w) X.A (call (.type "enumerate") us ([Str.ofString "start"].zip kvs)) (fun v s3 => wpAny (model X.prog X.w) X.A (pyIter v) (PIE X pins σ (.Tuple elts kk tpos) R) X.xe s3) X.xe s₂) X.xe s1)
    fun us s1 ⟨vs, H1, I1, r1, a, xs, ev, hq, q⟩ => ?_
  · rw [hb] at step ⊢
    exact evalArgs_kwB rfl step
  · subst ev
    refine thn ((pk_cons pe_int pk_nil).run pos pins s1 σ H1 (fun zs H2 => zs = [.int k] ∧ H2 = H1) I1 ⟨rfl, rfl⟩) fun ws s2 ⟨zs, H2, I2, r2, ez, eH⟩ => ?_
    subst ez eH
    obtain ⟨u1, rfl, ru1⟩ := vals1 r1
    obtain ⟨u2, rfl, ru2⟩ := vals1 r2
    obtain rfl : u1 = Value.ref a := ru1
    obtain ⟨t, rfl⟩ : ∃ t, u2 = Value.int k t := ru2
    obtain ⟨its, rv, p', hz⟩ := I2.list hq
    refine enum_begins_start (begins_list a its.toArray) p'.isList k0 k1 fun h' he ho hsz hk => wpAny_pyIter_enum he ?_
    have I3 : Inv X pins σ H2 { s2 with heap := h' } := I2.kept (t' := s2.toks) hk
    have ha' : a < s2.heap.objs.size := by obtain ⟨_, z, _⟩ := p'.isList; exact Heap.lt_size z
    refine ⟨s2.heap.objs.size + 1, [s2.heap.objs.size + 1, s2.heap.objs.size], _, _, H2, rfl, I3, turn_enumS a (s2.heap.objs.size + 1) s2.heap.objs.size k, ⟨⟨.none, ?_⟩, ⟨_, ho, rfl, rfl⟩, Nat.succ_ne_self _, Nat.ne_of_lt ha', Nat.ne_of_lt (Nat.lt_succ_of_lt ha')⟩, fun b hb => ?_, q⟩
    · rw [show k + ((0 : Nat) : Int) = k by omega]
      exact he
    · have hle : s2.heap.objs.size ≤ b := by
        rcases List.mem_cons.mp hb with z | hb
        · rw [z]; exact Nat.le_add_right _ _
        · rw [List.mem_singleton.mp hb]; exact Nat.le_refl _
      exact I2.fpOk hle (I2.hok.fresh hle)

/-! {kx: vx for t0 in i0 if .. for t1 in i1 if ..} -/
theorem dTurn0 (kx vx t0 i0 t1 i1 : Expr) (ifs0 ifs1 : List Expr) (scope : Scope) (pos : Pos) (it : Value) (D : Addr) (env : Env) :
    compTurn (.DictComp kx vx [⟨t0, i0, ifs0, 0⟩, ⟨t1, i1, ifs1, 0⟩] scope pos) 0 it (.ref D) env = (do
      standAt i0.pos
      match ← pyNext it with
      | none => pure (.done .next)
      | some v =>
        letOwnedTupleGo t0 it v
        assign t0 env v
        let mut ok := true
        for c in ifs0 do
          if ok then ok ← isTrue c env (eval c env)
        if ok then
          let x ← eval i1 env
          standAt i1.pos
          let x ← foldedSetIterable i1 env x
          let _ ← runOwn (.compStart (.DictComp kx vx [⟨t0, i0, ifs0, 0⟩, ⟨t1, i1, ifs1, 0⟩] scope pos) 1 (← holding [x] (pyIter x)) (.ref D) env) env
        again (.compLoop (.DictComp kx vx [⟨t0, i0, ifs0, 0⟩, ⟨t1, i1, ifs1, 0⟩] scope pos) 0 it (.ref D) env)) := by rfl
theorem dTurn1 (kx vx t0 i0 t1 i1 : Expr) (ifs0 ifs1 : List Expr) (scope : Scope) (pos : Pos) (it : Value) (D : Addr) (env : Env) :
    compTurn (.DictComp kx vx [⟨t0, i0, ifs0, 0⟩, ⟨t1, i1, ifs1, 0⟩] scope pos) 1 it (.ref D) env = (do
      standAt i1.pos
      match ← pyNext it with
      | none => pure (.done .next)
      | some v =>
        letOwnedTupleGo t1 it v
        assign t1 env v
        let mut ok := true
        for c in ifs1 do
          if ok then ok ← isTrue c env (eval c env)
        if ok then
          (do
            let kv ← eval kx env
            let vv ← holding [kv] (eval vx env)
            standAt { kx.pos with endLine := vx.pos.endLine, endCol := vx.pos.endCol }
            holding [kv, vv] (dictSet D kv vv))
        again (.compLoop (.DictComp kx vx [⟨t0, i0, ifs0, 0⟩, ⟨t1, i1, ifs1, 0⟩] scope pos) 1 it (.ref D) env)) := by rfl
section
variable {prog : Program} {w : World} {A : Around} {R : Result → Shared → Prop} {s : Shared} {kx vx t0 i0 t1 i1 : Expr} {ifs0 ifs1 : List Expr} {scope : Scope} {pos : Pos} {it : Value} {D : Addr} {env : Env}
abbrev err (prog : Program) (w : World) (A : Around) (env : Env) (R : Result → Shared → Prop) : Value → Shared → Prop := notedBy (model prog w) A env fun e s' => R (.error e) s'
abbrev tests (ifs : List Expr) (env : Env) : Sem Bool := forIn ifs true fun c r => if r = true then do let ok ← isTrue c env (eval c env); pure (ForInStep.yield ok) else pure (ForInStep.yield r)
theorem dLoop0 (hs : ∀ x, foldedSetIterable i1 env x = pure x) (I : Nat → Shared → Prop)
    (turn : ∀ n s, I n s → wpAny (model prog w) A (pyNext it) (fun r s₁ => match r with
      | none => R (.ok .next) s₁
      | some v => wpAny (model prog w) A (letOwnedTupleGo t0 it v) (fun _ s₁' => wpAny (model prog w) A (assign t0 env v) (fun _ s₂ => wpAny (model prog w) A (tests ifs0 env) (fun ok s₃ =>
            if ok = true then wpAny (model prog w) A (eval i1 env) (fun x s₄ => wpAny (model prog w) A (pyIter x) (fun it1 s₅ =>
              codeAny (model prog w) A (.compStart (.DictComp kx vx [⟨t0, i0, ifs0, 0⟩, ⟨t1, i1, ifs1, 0⟩] scope pos) 1 it1 (.ref D) env) (fun r s' => match r with
                | .ok _ => ∃ m, m < n ∧ I m s'
                | .error _ => False) s₅) (err prog w A env R) s₄) (err prog w A env R) s₃
            else ∃ m, m < n ∧ I m s₃) (err prog w A env R) s₂) (err prog w A env R) s₁') (err prog w A env R) s₁) (err prog w A env R) s)
    (n : Nat) (h : I n s) : codeAny (model prog w) A (.compLoop (.DictComp kx vx [⟨t0, i0, ifs0, 0⟩, ⟨t1, i1, ifs1, 0⟩] scope pos) 0 it (.ref D) env) R s := by
  refine codeAny_loop rfl I (fun n s hI => ?_) n h
  show wpAny _ A ((compTurn (.DictComp kx vx [⟨t0, i0, ifs0, 0⟩, ⟨t1, i1, ifs1, 0⟩] scope pos) 0 it (.ref D) env).onRaise (fun x => do noteFrame x env; theTreesLotGoes x)) _ _ s
  refine wpAny_noted ?_
  rw [dTurn0]
  refine wpAny_bind (wpAny_standAt (wpAny_bind (wpAny_mono (turn n s hI) (fun r s₁ h₁ => ?_) fun _ _ z => z)))
  rcases r with _ | v
  · exact wpAny_pure h₁
  refine wpAny_bind (wpAny_mono h₁ (fun _ s₁' h₁' => wpAny_bind (wpAny_mono h₁' (fun _ s₂ h₂ => wpAny_bind (wpAny_mono h₂ (fun ok s₃ h₃ => ?_) fun _ _ z => z)) fun _ _ z => z)) fun _ _ z => z)
  rcases ok with _ | _
  · exact wpAny_pure ⟨rfl, h₃⟩
  refine wpAny_bind (wpAny_mono h₃ (fun x s₄ h₄ => wpAny_bind (wpAny_standAt (wpAny_bind (wpAny_of_eq (hs x) (wpAny_bind (wpAny_holding (wpAny_mono h₄ (fun it1 s₅ h₅ => wpAny_bind (wpAny_runOwn ?_)) fun _ _ z => z))))))) fun _ _ z => z)
  rw [Around.mark_none]
  refine codeAny_mono h₅ fun r s' hr => ?_
  rcases r with e | f
  · exact hr.elim
  · first
      | exact wpAny_pure ⟨rfl, hr⟩
      | exact wpAny_bind (wpAny_pure (wpAny_pure ⟨rfl, hr⟩))
theorem dLoop1 (I : Nat → Shared → Prop)
    (turn : ∀ n s, I n s → wpAny (model prog w) A (pyNext it) (fun r s₁ => match r with
      | none => R (.ok .next) s₁
      | some v => wpAny (model prog w) A (letOwnedTupleGo t1 it v) (fun _ s₁' => wpAny (model prog w) A (assign t1 env v) (fun _ s₂ => wpAny (model prog w) A (tests ifs1 env) (fun ok s₃ =>
            if ok = true then wpAny (model prog w) A (eval kx env) (fun kv s₄ => wpAny (model prog w) A (eval vx env) (fun vv s₅ =>
              wpAny (model prog w) A (dictSet D kv vv) (fun _ s₆ => ∃ m, m < n ∧ I m s₆) (err prog w A env R) s₅) (err prog w A env R) s₄) (err prog w A env R) s₃
            else ∃ m, m < n ∧ I m s₃) (err prog w A env R) s₂) (err prog w A env R) s₁') (err prog w A env R) s₁) (err prog w A env R) s)
    (n : Nat) (h : I n s) : codeAny (model prog w) A (.compLoop (.DictComp kx vx [⟨t0, i0, ifs0, 0⟩, ⟨t1, i1, ifs1, 0⟩] scope pos) 1 it (.ref D) env) R s := by
  refine codeAny_loop rfl I (fun n s hI => ?_) n h
  show wpAny _ A ((compTurn (.DictComp kx vx [⟨t0, i0, ifs0, 0⟩, ⟨t1, i1, ifs1, 0⟩] scope pos) 1 it (.ref D) env).onRaise (fun x => do noteFrame x env; theTreesLotGoes x)) _ _ s
  refine wpAny_noted ?_
  rw [dTurn1]
  refine wpAny_bind (wpAny_standAt (wpAny_bind (wpAny_mono (turn n s hI) (fun r s₁ h₁ => ?_) fun _ _ z => z)))
  rcases r with _ | v
  · exact wpAny_pure h₁
  refine wpAny_bind (wpAny_mono h₁ (fun _ s₁' h₁' => wpAny_bind (wpAny_mono h₁' (fun _ s₂ h₂ => wpAny_bind (wpAny_mono h₂ (fun ok s₃ h₃ => ?_) fun _ _ z => z)) fun _ _ z => z)) fun _ _ z => z)
  rcases ok with _ | _
  · exact wpAny_pure ⟨rfl, h₃⟩
  exact wpAny_bind (wpAny_bind (wpAny_mono h₃ (fun kv s₄ h₄ => wpAny_bind (wpAny_holding (wpAny_mono h₄ (fun vv s₅ h₅ => wpAny_bind (wpAny_standAt (wpAny_holding (wpAny_mono h₅ (fun _ s₆ h₆ => wpAny_pure ⟨rfl, h₆⟩) fun _ _ z => z)))) fun _ _ z => z))) fun _ _ z => z))
theorem dStart1 (h0 : codeAny (model prog w) A (.compLoop (.DictComp kx vx [⟨t0, i0, ifs0, 0⟩, ⟨t1, i1, ifs1, 0⟩] scope pos) 1 it (.ref D) env) R s)
    (h : wpAny (model prog w) A (pyIter it) (fun it' s' => codeAny (model prog w) A (.compLoop (.DictComp kx vx [⟨t0, i0, ifs0, 0⟩, ⟨t1, i1, ifs1, 0⟩] scope pos) 1 it' (.ref D) env) R s') (err prog w A env R) s) :
    codeAny (model prog w) A (.compStart (.DictComp kx vx [⟨t0, i0, ifs0, 0⟩, ⟨t1, i1, ifs1, 0⟩] scope pos) 1 it (.ref D) env) R s := by
  refine codeAny_of_tree ?_
  show wpAny _ _ ((compStart (.DictComp kx vx [⟨t0, i0, ifs0, 0⟩, ⟨t1, i1, ifs1, 0⟩] scope pos) 1 it (.ref D) env).onRaise (fun x => do noteFrame x env; standAt theWindowsPlace)) _ _ s
  refine wpAny_notedAt ?_
  unfold compStart
  show wpAny _ _ (ask >>= _) _ _ s
  refine wpAny_bind (wpAny_askSetting (wpAny_ite ?_))
  split
  · first
      | exact wpAny_bind (wpAny_pure (wpAny_pure (And.intro rfl h0)))
      | exact wpAny_pure (And.intro rfl h0)
  · first
      | exact wpAny_bind (wpAny_rule (wpAny_bind (wpAny_standAt (wpAny_bind (wpAny_mono h (fun it' s' h' => wpAny_pure (And.intro rfl h')) fun _ _ x => x)))))
      | (refine wpAny_bind (wpAny_rule ?_); show wpAny _ _ (standAt i1.pos >>= _) _ _ s; exact wpAny_bind (wpAny_standAt (wpAny_bind (wpAny_mono h (fun it' s' h' => wpAny_pure (And.intro rfl h')) fun _ _ x => x))))
end
end L2.Dx

set_option Elab.async false
set_option linter.all false
set_option maxRecDepth 100000
set_option maxHeartbeats 4000000
namespace L2.Dx
open PySem PySem.Spec PyProof.Rows L2
/-- a new empty dict, as it is told -/
def NewD (o : HO) : Prop := ∀ {P : Program} {w : World} {H : Hp} (h : Heap), sysModules < h.objs.size → ObjOk P w H (h.push { cls := .type "dict", data := .dict #[] }) h.objs.size o
theorem newK : NewD (.dK []) := fun h b => dk_empty h b
theorem newT : NewD (.dT []) := fun h b => dt_empty h b
section
variable {X : Cx}
/-- {kx: vx for tg in iter if .. for tg1 in iter1 if ..}; o: the new dict, keys of one kind -/
def tDc2 (o : HO) (wi : TI) (g : TG) (tt : TT) (wi1 : TI) (g1 : TG) (tt1 : TT) (tk tv : TE) (vs vs1 : List Nat) : TE := fun σ H Q => wi σ H fun J H1 => ∀ D, H1 D = none → ∃ W : Nat → Nat → Hp → Prop, (∃ m, W 0 m (upd H1 D o)) ∧ ∀ i m H, W i m H →
  (J.stop i H ∧ Q (.ref D) H) ∨ (J.go i H ∧ ∃ Nx : Hp → Prop, (∀ H', Nx H' → ∃ m', m' < m ∧ W (i + 1) m' H') ∧ ∀ x H', J.yld i H x H' → g x (wipe σ vs) H' fun σ2 H2 => wipe σ2 vs = wipe σ vs ∧ tt σ2 H2 fun b H3 =>
    if b = true then wi1 σ2 H3 fun J1 H4 => ∃ W1 : Nat → Nat → Hp → Prop, (∃ m, W1 0 m H4) ∧ ∀ j k H, W1 j k H →
      (J1.stop j H ∧ Nx H) ∨ (J1.go j H ∧ ∃ Nx1 : Hp → Prop, (∀ H', Nx1 H' → ∃ k', k' < k ∧ W1 (j + 1) k' H') ∧ ∀ x H', J1.yld j H x H' → g1 x (wipe σ2 vs1) H' fun σ3 H5 => wipe σ3 vs1 = wipe σ2 vs1 ∧ tt1 σ3 H5 fun b H6 =>
        if b = true then tk σ3 H6 fun y H7 => tv σ3 H7 fun z H8 => ∃ H9, DPut H8 D y z H9 ∧ Nx1 H9 else Nx1 H6)
    else Nx H3)
theorem dc2_core {pins : List (Addr × Obj)} {s : Shared} {σ : St} {H : Hp} {Q : VK} {kx vx tg iter tg1 iter1 : Expr} {ifs ifs1 : List Expr} {scope : Scope} {own : List (Str × Nat)} {vs1 : List Nat} {pos pos' : Pos} {o0 : HO} {wi wi1 : TI} {g g1 : TG} {tt tt1 : TT} {tk tv : TE} {use : Option (Value → Sem Unit)} {Qf : Value → Shared → Prop}
    (hu : X.A.units + 1 < cLine) (nw : NewD o0) (hc : X.calm = true) (hN : X.N.Nodup) (I : Inv X pins σ H s) (hi : PI X tg iter wi) (ok : BlkOk X.N X.env.scope scope own) (hv : ∀ i ∈ vs1, i ∈ own.map (·.2))
    (hg : ∀ (s : Shared) (H : Hp) (C : Addr) (cl : List (Str × Addr)) (fp : List Addr), PG (X.blk s H scope (compEnvC scope cl C X.env) fp) tg g) (ht : ∀ (s : Shared) (H : Hp) (C : Addr) (cl : List (Str × Addr)) (fp : List Addr), PTs (X.blk s H scope (compEnvC scope cl C X.env) fp) ifs tt)
    (hs : ∀ x, foldedSetIterable iter X.env x = pure x)
    (hi1 : ∀ (s : Shared) (H : Hp) (C : Addr) (cl : List (Str × Addr)) (fp : List Addr), PI (X.blk s H scope (compEnvC scope cl C X.env) fp) tg1 iter1 wi1)
    (hg1 : ∀ (s : Shared) (H : Hp) (C : Addr) (cl : List (Str × Addr)) (fp : List Addr), PG (X.blk s H scope (compEnvC scope cl C X.env) fp) tg1 g1)
    (ht1 : ∀ (s : Shared) (H : Hp) (C : Addr) (cl : List (Str × Addr)) (fp : List Addr), PTs (X.blk s H scope (compEnvC scope cl C X.env) fp) ifs1 tt1)
    (hk : ∀ (s : Shared) (H : Hp) (C : Addr) (cl : List (Str × Addr)) (fp : List Addr), PE (X.blk s H scope (compEnvC scope cl C X.env) fp) kx tk)
    (he : ∀ (s : Shared) (H : Hp) (C : Addr) (cl : List (Str × Addr)) (fp : List Addr), PE (X.blk s H scope (compEnvC scope cl C X.env) fp) vx tv)
    (hs1 : ∀ env x, foldedSetIterable iter1 env x = pure x)
    (h : tDc2 o0 wi g tt wi1 g1 tt1 tk tv (own.map (·.2)) vs1 σ H Q)
    (hRR : ∀ D C s' m H', Inv X pins σ H' s' → Q (.ref D) H' → s'.heap.Ns C m → FpOk X pins H' C → compPost (model X.prog X.w) X.A X.xe use Qf (.ref D) C (.ok .next) s') :
    wpAny (model X.prog X.w) X.A (comprehension (.DictComp kx vx [⟨tg, iter, ifs, 0⟩, ⟨tg1, iter1, ifs1, 0⟩] scope pos) scope X.env pos' newDict false (eval iter X.env) use) Qf X.xe s := by
  have free : ∀ y ∈ scope.names, y.2 = .free → ∃ c, X.env.cells.lookup y.1 = some c := fun y hy e => (ok.free y hy e).elim (fun k => I.ok.has _ (.inl k)) fun k => I.ok.has _ (.inr k)
  refine wpAny_comprehension_free (use := use) rfl hs (closure_ok free) ok.kind (fun y hy e => by rw [ok.uniq y hy, e]) (thn (hi.run pins s σ H _ I h) fun xv s1 hx => thn hx fun itv s2 h2 => ?_)
  obtain ⟨it, fp, tn, J, H2, e, I2, T, st2, f2, q⟩ := h2
  subst e
  refine wpAny_newObj_type (newEnv_comp ?_)
  generalize hD : s2.heap.objs.size = D
  obtain ⟨W, ⟨m0, w0⟩, turn⟩ := q D (I2.hok.fresh (Nat.le_of_eq hD))
  generalize hs3 : ({ s2 with heap := s2.heap.push { cls := .type "dict", data := .dict #[] } } : Shared) = s3
  have I3 : Inv X pins σ (upd H2 D o0) s3 := by
    rw [← hs3]
    refine I2.laid (t' := s2.toks) (fun b o e => Heap.get?_push_of_some _ e) (Nat.le_of_eq hD) ?_
    rw [← hD]
    exact nw s2.heap I2.big
  have h3 : s3.heap = s2.heap.push { cls := .type "dict", data := .dict #[] } := by rw [← hs3]
  have f3 : ∀ b ∈ fp, FpOk X pins (upd H2 D o0) b ∧ b < s3.heap.objs.size := fun b hb => by
    have lt : b < s2.heap.objs.size := (T.obj _ _ st2 b hb).elim fun _ z => Heap.lt_size z.1
    refine ⟨⟨(upd_ne (by rw [← hD]; exact Nat.ne_of_lt lt)).trans (f2 b hb).1, (f2 b hb).2⟩, by rw [h3, Heap.size_push]; exact Nat.lt_succ_of_lt lt⟩
  have st3 : tn 0 s3.heap := T.keep _ _ _ st2 fun b _ o e => by rw [h3]; exact Heap.get?_push_of_some _ e
  have I4 := block_start I3 ok hN f3
  generalize hcl : cellsFrom (s3.heap.objs.size + 1) scope.names (cloFrom X.env.cells scope.names []) = cl at I4 ⊢
  have pg := hg s3 (upd H2 D o0) s3.heap.objs.size cl fp
  have pt := ht s3 (upd H2 D o0) s3.heap.objs.size cl fp
  have pk := hk s3 (upd H2 D o0) s3.heap.objs.size cl fp
  have pe := he s3 (upd H2 D o0) s3.heap.objs.size cl fp
  have pi1 := hi1 s3 (upd H2 D o0) s3.heap.objs.size cl fp
  have pg1 := hg1 s3 (upd H2 D o0) s3.heap.objs.size cl fp
  have pt1 := ht1 s3 (upd H2 D o0) s3.heap.objs.size cl fp
  show codeAny _ _ (.compStart (.DictComp kx vx [⟨tg, iter, ifs, 0⟩, ⟨tg1, iter1, ifs1, 0⟩] scope pos) 0 (.ref it) (.ref D) (compEnvC scope cl s3.heap.objs.size X.env)) (compPost (model X.prog X.w) X.A X.xe use Qf (.ref D) s3.heap.objs.size) { s3 with heap := pushCells (s3.heap.push { cls := .type "dict", data := .dict #[] }) scope.names }
  have nfp : ∀ b ∈ fp, (upd H2 D o0) b = none := fun b hb => (f3 b hb).1.1
  generalize hce : compEnvC scope cl s3.heap.objs.size X.env = ce at I4 pg pt pk pe pi1 pg1 pt1 ⊢
  have cL : ce.locals = s3.heap.objs.size := by subst hce; rfl
  generalize hH3 : upd H2 D o0 = H3 at I3 I4 pg pt pk pe pi1 pg1 pt1 w0 nfp f3
  generalize hs4 : ({ s3 with heap := pushCells (s3.heap.push { cls := .type "dict", data := .dict #[] }) scope.names } : Shared) = s4 at I4 ⊢
  have st4 : tn 0 s4.heap := T.keep _ _ _ st3 fun b _ o e => by rw [← hs4]; exact pushCells_keeps _ _ _ _ (Heap.get?_push_of_some _ e)
  generalize hY : X.blk s3 H3 scope ce fp = Y at I4 pg pt pk pe pi1 pg1 pt1
  have yA : Y.A = X.A := by rw [← hY]
  have yP : Y.prog = X.prog := by rw [← hY]
  have yW : Y.w = X.w := by rw [← hY]
  have yK : Y.K = X.K := by rw [← hY]
  have yc : Y.calm = true := by rw [← hY]; exact hc
  have yx : Y.xe = fun _ _ => False := by rw [← hY]
  have ye : Y.env = ce := by rw [← hY]
  have yex : Y.ex = fp := by rw [← hY]
  have ypn : Y.pn = [] := by rw [← hY]
  have stat : ∀ {σ' : St} {H' : Hp} {s' : Shared}, Inv Y [] σ' H' s' → (∀ b ∈ fp, H' b = none) → ∀ b ∈ fp, FpOk Y [] H' b := fun {σ' H' s'} I' hn b hb =>
    ⟨hn b hb, (I'.ok.exf b (by rw [yex]; exact hb)).1, I'.ok.exfs b (by rw [yex]; exact hb), .inl (by rw [yex]; exact hb), fun x c e => (I'.ok.exf b (by rw [yex]; exact hb)).2 x c e, fun p hp => by rw [ypn] at hp; cases hp⟩
  have loop : codeAny (model X.prog X.w) X.A (.compLoop (.DictComp kx vx [⟨tg, iter, ifs, 0⟩, ⟨tg1, iter1, ifs1, 0⟩] scope pos) 0 (.ref it) (.ref D) ce) (compPost (model X.prog X.w) X.A X.xe use Qf (.ref D) s3.heap.objs.size) s4 := by
    subst hY
    refine dLoop0 (hs1 ce) (fun n s' => ∃ i H', Inv (X.blk s3 H3 scope ce fp) [] (wipe σ (own.map (·.2))) H' s' ∧ tn i s'.heap ∧ (∀ b ∈ fp, H' b = none) ∧ W i n H') ?_ m0 ⟨0, H3, I4, st4, nfp, w0⟩
    rintro n s5 ⟨i, H5, I5, st5, n5, w5⟩
    rcases turn i n H5 w5 with ⟨stop, qq⟩ | ⟨go, Nx, hNx, step⟩
    · refine thnF (T.done (X.blk s3 H3 scope ce fp) rfl rfl rfl hc i [] s5 _ H5 (fun _ _ => False) I5 (stat I5 n5) st5 stop) fun r s6 ⟨hr, I6⟩ => ?_
      subst hr
      have I7 : Inv X pins σ H5 s6 := I3.call' (ch := fp) I6.os I6.base I6.hok I6.bare fun b hb => ⟨(f3 b hb).1.2.2.2.1, (f3 b hb).1.2.1, (f3 b hb).1.2.2.2.2.1, (f3 b hb).1.2.2.2.2.2⟩
      obtain ⟨m, hn, _⟩ := I6.loc
      exact hRR D s3.heap.objs.size s6 m H5 I7 qq (cL ▸ hn) (I3.fpOk (Nat.le_refl _) (cL ▸ I6.free))
    · refine thnF (T.item (X.blk s3 H3 scope ce fp) rfl rfl rfl hc i [] s5 _ H5 (fun _ _ => False) I5 (stat I5 n5) st5 go) fun r s6 ⟨u, hr, h6⟩ => ?_
      subst hr
      refine thnF h6 fun _ s7 ⟨x, H7, I7, r7, y7, st7, n7⟩ => ?_
      refine thnF (pg.run _ s7 _ H7 x u _ (I7.pinned (stat I7 n7) (T.obj _ _ st7)) r7 (step x H7 y7)) fun _ s8 ⟨σ8, H8, I8, hw8, q8⟩ => ?_
      refine thnF (pt.run _ s8 σ8 H8 _ I8 q8) fun b s9 ⟨H9, I9, q9⟩ => ?_
      have fin : ∀ {σ9 : St} {s' : Shared} {H' : Hp}, Inv (X.blk s3 H3 scope ce fp) ([] ++ pinsAt fp s7.heap) σ9 H' s' → (wipe σ (own.map (·.2))).length = σ9.length → (∀ (j : Nat) v, (wipe σ (own.map (·.2)))[j]? = some (some v) → σ9[j]? = some (some v)) → Nx H' →
          ∃ m, m < n ∧ ∃ i H', Inv (X.blk s3 H3 scope ce fp) [] (wipe σ (own.map (·.2))) H' s' ∧ tn i s'.heap ∧ (∀ b ∈ fp, H' b = none) ∧ W i m H' := fun {σ9 s' H'} I' hl hk nx => by
        obtain ⟨m', hm, w'⟩ := hNx H' nx
        have pin' : ∀ b ∈ fp, ∀ o, s7.heap.get? b = some o → s'.heap.get? b = some o ∧ H' b = none := fun b hb o e =>
          have z := I'.pin (b, o) (List.mem_append_right _ (List.mem_append_right _ (mem_pinsAt hb e)))
          ⟨z.1, z.2.1⟩
        exact ⟨m', hm, i + 1, H', (I'.unpinned (pins := [])).weak hl hk, T.keep _ _ _ st7 fun b hb o e => (pin' b hb o e).1, fun b hb => (T.obj _ _ st7 b hb).elim fun o e => (pin' b hb o e.1).2, w'⟩
      have hl8 : (wipe σ (own.map (·.2))).length = σ8.length := by rw [← hw8, wipe_length]
      have hk8 : ∀ (j : Nat) v, (wipe σ (own.map (·.2)))[j]? = some (some v) → σ8[j]? = some (some v) := fun j v e => (wipe_some (hw8 ▸ e)).1
      have hk9 : ∀ (j : Nat) v, (wipe σ (own.map (·.2)))[j]? = some (some v) → (wipe σ8 vs1)[j]? = some (some v) := fun j v e => by
        obtain ⟨e1, e2⟩ := wipe_some (hw8 ▸ e)
        exact (wipe_out fun z => e2 (hv j z)).trans e1
      cases b with
      | false =>
        simp only [Bool.false_eq_true, if_false] at q9 ⊢
        exact fin I9 hl8 hk8 q9
      | true =>
        simp only [if_true] at q9 ⊢
        refine thnF (pi1.run _ s9 σ8 H9 _ I9 q9) fun xv s10 hx => thnF hx fun itv s11 h11 => ?_
        obtain ⟨it1, fp1, tn1, J1, H11, e1, I11, T1, st11, f11, W1, ⟨m1, w1⟩, turn1⟩ := h11
        subst e1
        have stat1 : ∀ {H' : Hp}, (∀ b ∈ fp1, H' b = none) → ∀ b ∈ fp1, FpOk (X.blk s3 H3 scope ce fp) ([] ++ pinsAt fp s7.heap) H' b := fun hn b hb => ⟨hn b hb, (f11 b hb).2⟩
        have loop1 : codeAny (model X.prog X.w) X.A (.compLoop (.DictComp kx vx [⟨tg, iter, ifs, 0⟩, ⟨tg1, iter1, ifs1, 0⟩] scope pos) 1 (.ref it1) (.ref D) ce)
            (fun r s' => match r with
              | .ok _ => ∃ m, m < n ∧ ∃ i H', Inv (X.blk s3 H3 scope ce fp) [] (wipe σ (own.map (·.2))) H' s' ∧ tn i s'.heap ∧ (∀ b ∈ fp, H' b = none) ∧ W i m H'
              | .error _ => False) s11 := by
          refine dLoop1 (fun k s' => ∃ j H', Inv (X.blk s3 H3 scope ce fp) ([] ++ pinsAt fp s7.heap) (wipe σ8 vs1) H' s' ∧ tn1 j s'.heap ∧ (∀ b ∈ fp1, H' b = none) ∧ W1 j k H') ?_ m1 ⟨0, H11, I11.weak (wipe_length _ _) (fun j v e => (wipe_some e).1), st11, fun b hb => (f11 b hb).1, w1⟩
          rintro k s12 ⟨j, H12, I12, st12, n12, w12⟩
          rcases turn1 j k H12 w12 with ⟨stop1, nx1⟩ | ⟨go1, Nx1, hNx1, step1⟩
          · refine thnF (T1.done (X.blk s3 H3 scope ce fp) rfl rfl rfl hc j _ s12 (wipe σ8 vs1) H12 (fun _ _ => False) I12 (stat1 n12) st12 stop1) fun r s13 ⟨hr, I13⟩ => ?_
            subst hr
            exact fin I13 (hl8.trans (wipe_length σ8 vs1).symm) hk9 nx1
          · refine thnF (T1.item (X.blk s3 H3 scope ce fp) rfl rfl rfl hc j _ s12 (wipe σ8 vs1) H12 (fun _ _ => False) I12 (stat1 n12) st12 go1) fun r s13 ⟨u1, hr, h13⟩ => ?_
            subst hr
            refine thnF h13 fun _ s14 ⟨x1, H14, I14, r14, y14, st14, n14⟩ => ?_
            refine thnF (pg1.run _ s14 (wipe σ8 vs1) H14 x1 u1 _ (I14.pinned (stat1 n14) (T1.obj _ _ st14)) r14 (step1 x1 H14 y14)) fun _ s15 ⟨σ15, H15, I15, hw15, q15⟩ => ?_
            refine thnF (pt1.run _ s15 σ15 H15 _ I15 q15) fun b1 s16 ⟨H16, I16, q16⟩ => ?_
            have fin1 : ∀ {s' : Shared} {H' : Hp}, Inv (X.blk s3 H3 scope ce fp) (([] ++ pinsAt fp s7.heap) ++ pinsAt fp1 s14.heap) σ15 H' s' → Nx1 H' → ∃ m, m < k ∧ ∃ j H', Inv (X.blk s3 H3 scope ce fp) ([] ++ pinsAt fp s7.heap) (wipe σ8 vs1) H' s' ∧ tn1 j s'.heap ∧ (∀ b ∈ fp1, H' b = none) ∧ W1 j m H' := fun {s' H'} I' nx => by
              obtain ⟨m', hm, w'⟩ := hNx1 H' nx
              have pin' : ∀ b ∈ fp1, ∀ o, s14.heap.get? b = some o → s'.heap.get? b = some o ∧ H' b = none := fun b hb o e =>
                have z := I'.pin (b, o) (List.mem_append_right _ (List.mem_append_right _ (mem_pinsAt hb e)))
                ⟨z.1, z.2.1⟩
              exact ⟨m', hm, j + 1, H', I'.unpinned.weak (by rw [← hw15, wipe_length]) (fun j v e => (wipe_some (hw15 ▸ e)).1), T1.keep _ _ _ st14 fun b hb o e => (pin' b hb o e).1, fun b hb => (T1.obj _ _ st14 b hb).elim fun o e => (pin' b hb o e.1).2, w'⟩
            cases b1 with
            | false =>
              simp only [Bool.false_eq_true, if_false] at q16 ⊢
              exact fin1 I16 q16
            | true =>
              simp only [if_true] at q16 ⊢
              refine thnF (pk.run _ s16 σ15 H16 _ I16 q16) fun z s17 ⟨yk, H17, I17, r17, q17⟩ => ?_
              refine thnF (pe.run _ s17 σ15 H17 _ I17 q17) fun z2 s18 ⟨yv, H18, I18, r18, H19, hput, nx⟩ => ?_
              exact put_ok (X := X.blk s3 H3 scope ce fp) hu I18 hput r17 r18 fun s19 I19 => fin1 I19 nx
        exact dStart1 loop1 (T1.self X.A 0 _ _ _ st11 loop1)
  exact codeAny_compStart_dict loop (T.self X.A 0 _ _ _ st4 loop)
theorem pe_dc2 {kx vx tg iter tg1 iter1 : Expr} {ifs ifs1 : List Expr} {scope : Scope} {own : List (Str × Nat)} {vs1 : List Nat} {pos : Pos} {o0 : HO} {wi wi1 : TI} {g g1 : TG} {tt tt1 : TT} {tk tv : TE} (hu : X.A.units + 1 < cLine) (nw : NewD o0) (hc : X.calm = true) (hN : X.N.Nodup) (hi : PI X tg iter wi) (ok : BlkOk X.N X.env.scope scope own) (hv : ∀ i ∈ vs1, i ∈ own.map (·.2))
    (hg : ∀ (s : Shared) (H : Hp) (C : Addr) (cl : List (Str × Addr)) (fp : List Addr), PG (X.blk s H scope (compEnvC scope cl C X.env) fp) tg g) (ht : ∀ (s : Shared) (H : Hp) (C : Addr) (cl : List (Str × Addr)) (fp : List Addr), PTs (X.blk s H scope (compEnvC scope cl C X.env) fp) ifs tt)
    (hi1 : ∀ (s : Shared) (H : Hp) (C : Addr) (cl : List (Str × Addr)) (fp : List Addr), PI (X.blk s H scope (compEnvC scope cl C X.env) fp) tg1 iter1 wi1)
    (hg1 : ∀ (s : Shared) (H : Hp) (C : Addr) (cl : List (Str × Addr)) (fp : List Addr), PG (X.blk s H scope (compEnvC scope cl C X.env) fp) tg1 g1)
    (ht1 : ∀ (s : Shared) (H : Hp) (C : Addr) (cl : List (Str × Addr)) (fp : List Addr), PTs (X.blk s H scope (compEnvC scope cl C X.env) fp) ifs1 tt1)
    (hk : ∀ (s : Shared) (H : Hp) (C : Addr) (cl : List (Str × Addr)) (fp : List Addr), PE (X.blk s H scope (compEnvC scope cl C X.env) fp) kx tk)
    (he : ∀ (s : Shared) (H : Hp) (C : Addr) (cl : List (Str × Addr)) (fp : List Addr), PE (X.blk s H scope (compEnvC scope cl C X.env) fp) vx tv)
    (hs : ∀ x, foldedSetIterable iter X.env x = pure x := by intro _; rfl) (hs1 : ∀ env x, foldedSetIterable iter1 env x = pure x := by intro _ _; rfl) :
    PE X (.DictComp kx vx [⟨tg, iter, ifs, 0⟩, ⟨tg1, iter1, ifs1, 0⟩] scope pos) (tDc2 o0 wi g tt wi1 g1 tt1 tk tv (own.map (·.2)) vs1) := by
  refine ⟨fun pins s σ H Q I h => ?_⟩
  rw [arm_eval_DictComp]
  refine dc2_core hu nw hc hN I hi ok hv hg ht hs hi1 hg1 ht1 hk he hs1 h fun D C s' m H' I' q hn f => ⟨m, hn, fun h'' sb => ?_⟩
  obtain ⟨f0, f1, f2, f3, f4, f5⟩ := f
  exact ⟨.ref D, H', I'.turned (t' := s'.toks) (fun b o hb e => (sb.2 b hb).trans e) f0 f1 f3 f4 f5, rfl, q⟩
end
end L2.Dx

set_option Elab.async false
set_option linter.all false
set_option maxRecDepth 100000
set_option maxHeartbeats 4000000
namespace L2.Dx
open PySem PySem.Spec PyProof.Rows L2
theorem swd_true {kx vx : Expr} {gs : List Comprehension} {scope : Scope} {pos py : Pos} {y : Str} {l : Nat} {env : Env} (hk : env.scope.kind = .function) (hy : env.scope.names.lookup y = some .local) (hl : (py.line == pos.line) = true)
    (ha : (scope.names.any fun (n, k) => n == y && (k == .local || k == .cell)) = false) : swapsWith (.DictComp kx vx gs scope pos) (some (.Name y py)) l env = pure true := by
  have e1 : env.kindOf y = some .local := hy
  have e2 : env.blockKind = .function := by
    unfold Env.blockKind
    rw [hk]
    rfl
  unfold swapsWith
  simp only [e2, e1, ha, Expr.pos, hl]
  rfl
section
variable {X : Cx}
/-- y = {kx: vx for ..}: the new dict is stored where the comprehension ends -/
theorem ps_setDc {i : Nat} {y : Str} {py : Pos} {kx vx tg iter : Expr} {ifs : List Expr} {scope : Scope} {own : List (Str × Nat)} {pos spos : Pos} {wi : TI} {g : TG} {tt : TT} {tk tv : TE} (hc : X.calm = true) (hN : X.N.Nodup) (hy : X.N[i]? = some y) (hyl : X.env.scope.names.lookup y = some .local)
    (hsw : swapsWith (.DictComp kx vx [⟨tg, iter, ifs, 0⟩] scope pos) (some (.Name y py)) spos.line X.env = pure true) (hi : PI X tg iter wi) (ok : BlkOk X.N X.env.scope scope own)
    (hg : ∀ (s : Shared) (H : Hp) (C : Addr) (cl : List (Str × Addr)) (fp : List Addr), PG (X.blk s H scope (compEnvC scope cl C X.env) fp) tg g) (ht : ∀ (s : Shared) (H : Hp) (C : Addr) (cl : List (Str × Addr)) (fp : List Addr), PTs (X.blk s H scope (compEnvC scope cl C X.env) fp) ifs tt)
    (hk : ∀ (s : Shared) (H : Hp) (C : Addr) (cl : List (Str × Addr)) (fp : List Addr), PE (X.blk s H scope (compEnvC scope cl C X.env) fp) kx tk)
    (he : ∀ (s : Shared) (H : Hp) (C : Addr) (cl : List (Str × Addr)) (fp : List Addr), PE (X.blk s H scope (compEnvC scope cl C X.env) fp) vx tv) (hs : ∀ x, foldedSetIterable iter X.env x = pure x := by intro _; rfl) :
    PS X (.Assign [.Name y py] (.DictComp kx vx [⟨tg, iter, ifs, 0⟩] scope pos) spos) (tAsg (tDc wi g tt tk tv (own.map (·.2))) (gName i)) := by
  refine ⟨fun pins s σ H D I h => ?_⟩
  rw [exec_Assign_Name_used _ _ _ _ hsw]
  refine wpAny_bind (wpAny_standAt (wpAny_bind ?_))
  show wpAny _ X.A (do let _ ← comprehension (.DictComp kx vx [⟨tg, iter, ifs, 0⟩] scope pos) scope X.env (firstIterPos [⟨tg, iter, ifs, 0⟩] pos) newDict false (eval iter X.env) (some (assign (.Name y py) X.env))) _ _ s
  have h : tDc wi g tt tk tv (own.map (·.2)) σ H (fun x H1 => gName i x σ H1 D.nx) := h
  refine wpAny_bind (thn (dc_core (Qf := fun _ s' => SP X pins D .next s') hc hN I hi ok hg ht hk he hs h fun L C s' m H' I' q hn f => ?_) fun _ s' hq => wpAny_pure (wpAny_pure hq))
  show wpAny _ _ (assign (.Name y py) X.env (.ref L)) _ _ _
  refine wpAny_assign_Name (store_ok2 (v := V.ref L) I' hN hy (.inl hyl) rfl (fun s2 I2 ⟨a, sb, ha⟩ => ?_) (.inr hyl))
  obtain ⟨f0, f1, f2, f3, f4, f5⟩ := f
  have other : C ≠ a := ha.elim (fun z => by rw [z]; exact f1) fun z e => f4 y a z e.symm
  exact ⟨m, hn.sameBut sb other, fun h3 sb3 => ⟨_, H', I2.turned (t' := s2.toks) (fun b o hb e => (sb3.2 b hb).trans e) f0 f1 f3 f4 f5, q⟩⟩
end
end L2.Dx

set_option Elab.async false
set_option linter.all false
set_option maxRecDepth 100000
set_option maxHeartbeats 4000000
namespace L2.Dx
open PySem PySem.Spec PyProof.Rows L2
/-! rules that name the written part, for blocks of comprehensions: the block's is the def's -/
section
variable {X : Cx} {K : PySem.W.Frag} (hK : X.K = K)
include hK
theorem ix_listK : IxR X (rIxL K) := by subst hK; exact ix_list
theorem ix_tupK : IxR X (rIxT K) := by subst hK; exact ix_tup
theorem sl_listK : SlR X (rSlL K) := by subst hK; exact sl_list
theorem pi_listK {tg l : Expr} {tl : TE} (h : PE X l tl) : PI X tg l (iList K tl) := by subst hK; exact pi_list h
theorem pg_tupK {es : List Expr} {k : Nat} {pos : Pos} {t : TGs} (n : Nat) (hc : X.calm = true) (h : PGs X es t) (hn : (assignEach es X.env).length = n := by rfl) (hst : (assignEach es X.env).findIdx? (·.1) = none := by rfl) :
    PG X (.Tuple es k pos) (gTup K n t) := by subst hK; exact pg_tup hc h hn hst
theorem op_in_seqK : OpR X (compareOp .In) (rIn K false) := by subst hK; exact op_in_seq
theorem op_notIn_seqK : OpR X (compareOp .NotIn) (rIn K true) := by subst hK; exact op_notIn_seq
theorem call_len_seqK : CallR X (.builtin "len") (fun xs H Q => ∃ p ys, xs = [.ref p] ∧ (SqL K H p ys ∨ SqT K H p ys) ∧ Q (.int ys.length) H) := by subst hK; exact call_len_seq
theorem call_isiK' : CallR X (.builtin "isinstance") (rIsi K) := by subst hK; exact call_isi
theorem pi_enumK {e : Expr} {ta : TA} {p pos tpos : Pos} {elts : List Expr} {kk : Nat} (hg : Gl X "enumerate") (hm : X.mg "enumerate" = none) (ha : PA X [e] ta) (hs : starEach [e] X.env = [(false, eval e X.env)] := by rfl) :
    PI X (.Tuple elts kk tpos) (.Call (.Name "enumerate" p) [e] [] pos) (iEnum K ta) := by subst hK; exact pi_enum hg hm ha hs
theorem pi_enumSK {e : Expr} {ta : TA} {p pos tpos p2 kp : Pos} {elts : List Expr} {kk : Nat} {k : Int} {j : Nat} (k0 : -(2 ^ 63) ≤ k) (k1 : k < 2 ^ 63) (hg : Gl X "enumerate") (hm : X.mg "enumerate" = none) (ha : PA X [e] ta)
    (hs : starEach [e] X.env = [(false, eval e X.env)] := by rfl) : PI X (.Tuple elts kk tpos) (.Call (.Name "enumerate" p) [e] [⟨some (Str.ofString "start"), .Constant (.int k) j p2, kp⟩] pos) (iEnumS K k ta) := by subst hK; exact pi_enumS k0 k1 hg hm ha hs
theorem op_eqDK (hu : X.A.units + 64 < cLine) : OpR X (compareOp .Eq) (rEqD K) := by subst hK; exact op_eqD hu
theorem op_neDK (hu : X.A.units + 64 < cLine) : OpR X (compareOp .NotEq) (rNeD K) := by subst hK; exact op_neD hu
end
end L2.Dx

set_option Elab.async false
set_option linter.all false
set_option maxRecDepth 100000
set_option maxHeartbeats 4000000
namespace L2.Dx
open PySem PySem.Spec PyProof.Rows L2
section
variable {X : Cx} {K : PySem.W.Frag}
variable {o e : Expr} {es : List Expr} {to : TE} {t : TA} {name : Str} {apos cpos : Pos} {T id : String} {r : V → List V → Hp → VK → Prop}
theorem pe_bm0K (hK : X.K = K) (pa : PlainAttrs T) (slot : Slot T name id) (hty : typeOf (.builtin id) = pure (.type "method_descriptor")) (hm : MtR X id r) (ho : PE X o to)
    (hbase : attributeBase o name X.env (eval o X.env) = eval o X.env := by rfl) (hline : (apos.endLine == cpos.line) = true := by rfl) : PE X (.Call (.Attribute o name apos) [] [] cpos) (tBM0 K T r to) := by
  subst hK
  exact pe_bm0 pa slot hty hm ho hbase hline
theorem pe_bmK (hK : X.K = K) (pa : PlainAttrs T) (slot : Slot T name id) (hty : typeOf (.builtin id) = pure (.type "method_descriptor")) (hm : MtR X id r) (ho : PE X o to) (ha : PA X (e :: es) t)
    (hbase : attributeBase o name X.env (eval o X.env) = eval o X.env := by rfl)
    (hfew : ((backTo cpos (starEach (e :: es) X.env)).all (fun x => !x.1) && (backToKw cpos (keywordEach [] X.env)).all (fun x => x.1.isSome)
      && decide ((e :: es).length + ([] : List Keyword).length + (if ([] : List Keyword).isEmpty then 0 else 1) < 30)) = true := by rfl)
    (hline : (apos.endLine == cpos.line) = true := by rfl) (hs : starEach (e :: es) X.env = (false, eval e X.env) :: starEach es X.env := by rfl) (hplain : (backTo cpos (starEach es X.env)).any (·.1) = false := by rfl) :
    PE X (.Call (.Attribute o name apos) (e :: es) [] cpos) (tBM K T r to t) := by
  subst hK
  exact pe_bm pa slot hty hm ho ha hbase hfew hline hs hplain
end
end L2.Dx

set_option Elab.async false
set_option linter.all false
set_option maxRecDepth 100000
set_option maxHeartbeats 4000000
namespace Kx
open PySem PySem.Spec PyProof.Rows L2
/-- ** of ints of any size that the model takes -/
def CPowW (i j : Int) : Prop := 0 ≤ j ∧ (Builtin.Int.intBits i : Int) * j ≤ 2 ^ 27
section
variable {X : Cx}
theorem op_powW : OpR X (binaryOp .Pow) (rI CPowW fun i j => .int (i ^ j.toNat)) := opI fun _ _ _ _ _ _ _ hc q => pow_int hc.1 hc.2 q
end
theorem bits_lt {i : Int} {b : Nat} (h0 : 0 < b) (h : i.natAbs < 2 ^ b) : Builtin.Int.intBits i ≤ b := by
  have := PySem.Flt.log2_lt_of h0 h
  unfold Builtin.Int.intBits
  split <;> omega
theorem wide_pow {i j : Int} {b : Nat} (h0 : 0 < b) (h : i.natAbs < 2 ^ b) (hj : 0 ≤ j) (hb : (b : Int) * j ≤ 2 ^ 27) : CPowW i j := by
  refine ⟨hj, Int.le_trans (Int.mul_le_mul_of_nonneg_right (Int.ofNat_le.mpr (bits_lt h0 h)) hj) hb⟩
/-- H' is H but for what stands at the addresses of S -/
def But (S : List Addr) (H H' : Hp) : Prop := ∀ b x, b ∉ S → H b = some x → H' b = some x
theorem But.refl (S : List Addr) (H : Hp) : But S H H := fun _ _ _ e => e
theorem But.trans {S : List Addr} {H H' H'' : Hp} (a : But S H H') (b : But S H' H'') : But S H H'' := fun c x hc e => b c x hc (a c x hc e)
theorem But.mono {S T : List Addr} {H H' : Hp} (a : But S H H') (h : ∀ b ∈ S, b ∈ T) : But T H H' := fun c x hc e => a c x (fun z => hc (h c z)) e
theorem But.same {S : List Addr} {H H' : Hp} (a : Same H H') : But S H H' := fun c x _ e => a c x e
theorem But.put {S : List Addr} {H : Hp} {a : Addr} {o : HO} (h : a ∈ S) : But S H (upd H a o) := fun c x hc e => by
  rw [upd_ne (fun z => hc (by rw [z]; exact h))]
  exact e
theorem But.new {S : List Addr} {H : Hp} {a : Addr} {o : HO} (h : H a = none) : But S H (upd H a o) := fun c x _ e => by
  rw [upd_ne (ne_of_none e h)]
  exact e
end Kx

set_option Elab.async false
set_option linter.all false
set_option maxRecDepth 100000
set_option maxHeartbeats 4000000
namespace KA
open PySem PySem.Spec PyProof.Rows L2 L2.Dx
/-! ### names, nodes -/
abbrev ltS (a b : Str) : Prop := a.cps.toList < b.cps.toList
structure NameOk (z : Str) : Prop where
  lo : 1 ≤ z.length
  hi : z.length ≤ 8
  az : ∀ c ∈ z.cps.toList, 97 ≤ c ∧ c ≤ 122
structure NodesOk (ns : List Str) : Prop where
  lo : 2 ≤ ns.length
  hi : ns.length ≤ 12
  nm : ∀ z ∈ ns, NameOk z
  asc : ns.Pairwise ltS
theorem ltS_irrefl (a : Str) : ¬ ltS a a := List.lt_irrefl _
theorem NodesOk.nodup {ns : List Str} (h : NodesOk ns) : ns.Nodup := h.asc.imp (S := fun a b => a ≠ b) fun {a b} l (e : a = b) => ltS_irrefl b (by rw [e] at l; exact l)
theorem empty_lt {z : Str} (h : NameOk z) : ltS ("" : Str) z := by
  have := h.lo
  obtain ⟨⟨l⟩⟩ := z
  cases l with
  | nil => simp [Str.length] at this
  | cons a r => exact .nil
/-! ### texts of small letters -/
theorem alpha_az {c : Nat} (h : 97 ≤ c ∧ c ≤ 122) : Unicode.isAlpha c = true := by
  have k : (List.range 26).all (fun i => Unicode.isAlpha (97 + i)) = true := by decide +kernel
  rw [List.all_eq_true] at k
  have := k (c - 97) (List.mem_range.mpr (by omega))
  rwa [show 97 + (c - 97) = c by omega] at this
theorem lower_az {c : Nat} (h : 97 ≤ c ∧ c ≤ 122) : Unicode.isLower c = true ∧ (Unicode.isUpper c || Unicode.isTitle c) = false := by
  have k : (List.range 26).all (fun i => Unicode.isLower (97 + i) && !(Unicode.isUpper (97 + i) || Unicode.isTitle (97 + i))) = true := by decide +kernel
  rw [List.all_eq_true] at k
  have := k (c - 97) (List.mem_range.mpr (by omega))
  rw [show 97 + (c - 97) = c by omega] at this
  simpa using this
theorem az_text {z : Str} (h0 : 1 ≤ z.length) (h : ∀ c ∈ z.cps.toList, 97 ≤ c ∧ c ≤ 122) : Txt.isascii z = true ∧ Txt.isalpha z = true ∧ Txt.islower z = true := by
  obtain ⟨⟨l⟩⟩ := z
  refine ⟨?_, ?_, ?_⟩
  · show l.toArray.all (· < 128) = true
    simp only [List.all_toArray, List.all_eq_true, decide_eq_true_eq]
    intro c hc
    have := h c hc
    omega
  · show (decide (l.toArray.size > 0) && l.toArray.all Unicode.isAlpha) = true
    rw [Bool.and_eq_true, decide_eq_true_eq]
    refine ⟨h0, ?_⟩
    simp only [List.all_toArray, List.all_eq_true]
    exact fun c hc => alpha_az (h c hc)
  · show (l.toArray.any Unicode.isLower && !l.toArray.any fun c => Unicode.isUpper c || Unicode.isTitle c) = true
    simp only [List.any_toArray, Bool.and_eq_true, List.any_eq_true, Bool.not_eq_true', List.any_eq_false]
    cases l with
    | nil => simp [Str.length] at h0
    | cons a r =>
      refine ⟨⟨a, List.mem_cons_self, (lower_az (h a List.mem_cons_self)).1⟩, fun c hc => ?_⟩
      rw [(lower_az (h c hc)).2]
      simp
theorem join_mem {c : Nat} : ∀ {zs : List Str}, c ∈ (Str.join ("" : Str) zs).cps.toList → ∃ z ∈ zs, c ∈ z.cps.toList
  | [], h => by cases h
  | [x], h => ⟨x, List.mem_cons_self, h⟩
  | x :: y :: r, h => by
    have h : c ∈ ((x ++ ("" : Str)) ++ Str.join ("" : Str) (y :: r)).cps.toList := h
    rw [show ((x ++ ("" : Str)) ++ Str.join ("" : Str) (y :: r)).cps = (x.cps ++ ("" : Str).cps) ++ (Str.join ("" : Str) (y :: r)).cps from rfl] at h
    simp only [Array.toList_append, List.mem_append] at h
    rcases h with (h | h) | h
    · exact ⟨x, List.mem_cons_self, h⟩
    · cases h
    · obtain ⟨z, hz, hc⟩ := join_mem h
      exact ⟨z, List.mem_cons_of_mem _ hz, hc⟩
theorem join_len {x : Str} : ∀ {zs : List Str}, x ∈ zs → x.length ≤ (Str.join ("" : Str) zs).length
  | [y], h => by cases List.mem_singleton.mp h; exact Nat.le_refl _
  | y :: z :: r, h => by
    show x.length ≤ ((y ++ ("" : Str)) ++ Str.join ("" : Str) (z :: r)).length
    rw [Str.length_append, Str.length_append]
    rcases List.mem_cons.mp h with rfl | h
    · omega
    · have := join_len h
      omega
theorem sum_len : ∀ (zs : List Str), (∀ z ∈ zs, z.length ≤ 8) → (zs.map (·.length)).sum ≤ 8 * zs.length
  | [], _ => Nat.le_refl _
  | z :: r, h => by
    have h1 := h z List.mem_cons_self
    have h2 := sum_len r fun y hy => h y (List.mem_cons_of_mem _ hy)
    simp only [List.map_cons, List.sum_cons, List.length_cons]
    omega
theorem nodes_text {ns : List Str} (h : NodesOk ns) : Txt.isascii (Txt.join ("" : Str) ns) = true ∧ Txt.isalpha (Txt.join ("" : Str) ns) = true ∧ Txt.islower (Txt.join ("" : Str) ns) = true := by
  rw [show Txt.join ("" : Str) ns = Str.join ("" : Str) ns from StrLaws.glued_eq_join _ _]
  refine az_text ?_ fun c hc => ?_
  · cases ns with
    | nil => have := h.lo; simp at this
    | cons x r =>
      exact Nat.le_trans (h.nm x List.mem_cons_self).lo (join_len List.mem_cons_self)
  · obtain ⟨z, hz, hc⟩ := join_mem hc
    exact (h.nm z hz).az c hc
/-! ### small words over heaps -/
theorem same_new {H : Hp} {p : Addr} {o : HO} (h : H p = none) : Same H (upd H p o) := fun b x e => (upd_ne (ne_of_none e h)).trans e
theorem same_put {H0 H : Hp} {p : Addr} {o : HO} (s : Same H0 H) (h : H0 p = none) : Same H0 (upd H p o) := fun b x e => (upd_ne (ne_of_none e h)).trans (s b x e)
theorem free0 {H0 H : Hp} {p : Addr} (s : Same H0 H) (h : H p = none) : H0 p = none := s.free h
theorem ltI {H : Hp} {K : PySem.W.Frag} {a : Addr} {xs : List V} (h : H a = some (.lst xs)) : SqL K H a xs := .inl (.inl h)
theorem tpI {H : Hp} {K : PySem.W.Frag} {a : Addr} {xs : List V} (h : H a = some (.tup xs)) : SqT K H a xs := .inl (.inl h)
/-! ### is, of an int and a truth value -/
theorem op_is_ib {X : Cx} : OpR X (compareOp .Is) (fun x y H Q => ∃ i b, x = .int i ∧ y = .bl b ∧ Q (.bl false) H) := by
  intro pins s σ H x y v u Q I rx ry h
  obtain ⟨i, b, rfl, rfl, q⟩ := h
  obtain ⟨t, rfl⟩ : ∃ t, v = Value.int i t := rx
  obtain rfl : u = Value.bool b := ry
  exact wpAny_is_other rfl (fun z => nomatch z) ⟨.bl false, H, I, rfl, q⟩
/-! ### receivers -/
def recvGo (nodes : List Str) (x : Str) : Str → List Str → Bool
  | _, [] => true
  | p, r :: t => decide (r ∈ nodes) && decide (ltS p r) && decide (r ≠ x) && recvGo nodes x r t
theorem recvGo_cons {nodes : List Str} {x p r : Str} {t : List Str} : recvGo nodes x p (r :: t) = (decide (r ∈ nodes) && decide (ltS p r) && decide (r ≠ x) && recvGo nodes x r t) := rfl
def recvB (nodes : List Str) (x : Str) (rs : List Str) : Bool := !rs.isEmpty && recvGo nodes x "" rs
theorem recvGo_mem {nodes : List Str} {x : Str} : ∀ {rs : List Str} {p : Str}, recvGo nodes x p rs = true → ∀ r ∈ rs, r ∈ nodes ∧ r ≠ x ∧ ltS p r
  | [], _, _, r, hr => nomatch hr
  | y :: t, p, h, r, hr => by
    unfold recvGo at h
    simp only [Bool.and_eq_true, decide_eq_true_eq] at h
    obtain ⟨⟨⟨h1, h2⟩, h3⟩, h4⟩ := h
    rcases List.mem_cons.mp hr with rfl | hr
    · exact ⟨h1, h3, h2⟩
    · obtain ⟨k1, k2, k3⟩ := recvGo_mem h4 r hr
      exact ⟨k1, k2, List.lt_trans h2 k3⟩
theorem recvGo_asc {nodes : List Str} {x : Str} : ∀ {rs : List Str} {p : Str}, recvGo nodes x p rs = true → rs.Pairwise ltS
  | [], _, _ => .nil
  | y :: t, p, h => by
    have h' := h
    unfold recvGo at h
    simp only [Bool.and_eq_true, decide_eq_true_eq] at h
    obtain ⟨_, h4⟩ := h
    exact .cons (fun r hr => (recvGo_mem h4 r hr).2.2) (recvGo_asc h4)
theorem recvGo_of {nodes : List Str} {x : Str} : ∀ {rs : List Str} {p : Str}, (∀ r ∈ rs, r ∈ nodes ∧ r ≠ x ∧ ltS p r) → rs.Pairwise ltS → recvGo nodes x p rs = true
  | [], _, _, _ => rfl
  | y :: t, p, h, a => by
    obtain ⟨h1, h2, h3⟩ := h y List.mem_cons_self
    cases a with
    | cons a1 a2 =>
    unfold recvGo
    rw [decide_eq_true h1, decide_eq_true h2, decide_eq_true h3, recvGo_of (fun r hr => ⟨(h r (List.mem_cons_of_mem _ hr)).1, (h r (List.mem_cons_of_mem _ hr)).2.1, a1 r hr⟩) a2]
    rfl
/-- a dict whose keys are the nodes -/
def KeysAre (kvs : List (Key × V)) (nodes : List Str) : Prop := ∀ r : Str, (valV kvs (.inr r)).isSome = decide (r ∈ nodes)
end KA
namespace KA
open PySem PySem.Spec PyProof.Rows L2 L2.Dx
/-! ### the events -/
inductive Ev where
  | snd (x : Str) (rs : List Str)
  | opn (x s : Str) (n : Int)
def EvAt (H : Hp) (a : Addr) : Ev → Prop
  | .snd x rs => ∃ l, H a = some (.tup [.str "send", .str x, .ref l]) ∧ H l = some (.lst (rs.map V.str))
  | .opn x s n => ∃ m, H a = some (.tup [.str "open", .str x, .ref m]) ∧ H m = some (.tup [.str s, .int n])
theorem EvAt.same {H H' : Hp} {a : Addr} {e : Ev} (h : EvAt H a e) (s : Same H H') : EvAt H' a e := by
  cases e with
  | snd x rs => exact h.elim fun l ⟨h1, h2⟩ => ⟨l, s _ _ h1, s _ _ h2⟩
  | opn x t n => exact h.elim fun l ⟨h1, h2⟩ => ⟨l, s _ _ h1, s _ _ h2⟩
structure RunAt (H : Hp) (r : Addr) (as : List Addr) (es : List Ev) : Prop where
  at' : H r = some (.lst (as.map V.ref))
  len : as.length = es.length
  ev : ∀ (i : Nat) (a : Addr) (e : Ev), as[i]? = some a → es[i]? = some e → EvAt H a e
theorem RunAt.same {H H' : Hp} {r : Addr} {as : List Addr} {es : List Ev} (h : RunAt H r as es) (s : Same H H') : RunAt H' r as es := ⟨s _ _ h.at', h.len, fun i a e h1 h2 => (h.ev i a e h1 h2).same s⟩
theorem RunAt.get {H : Hp} {r : Addr} {as : List Addr} {es : List Ev} (h : RunAt H r as es) {i : Nat} {e : Ev} (he : es[i]? = some e) : ∃ a, as[i]? = some a ∧ EvAt H a e := by
  have hi : i < as.length := by rw [h.len]; exact (List.getElem?_eq_some_iff.mp he).1
  exact ⟨as[i], List.getElem?_eq_getElem hi, h.ev i _ e (List.getElem?_eq_getElem hi) he⟩
/-! ### what a run's reading finds -/
structure Rs where
  sends : Str → List Nat
  opens : Str → List (Nat × Nat)
def Rs.nil : Rs := ⟨fun _ => [], fun _ => []⟩
def recvAt (es : List Ev) (i : Nat) : List Str := match es[i]? with
  | some (.snd _ rs) => rs
  | _ => []
/-- the place of the send of a message -/
def sentAt (r : Rs) (nodes : List Str) (s : Str) (n : Int) : Option Nat := if s ∈ nodes ∧ 0 < n then (r.sends s)[(n - 1).toNat]? else none
def evOk (nodes : List Str) (es : List Ev) (r : Rs) : Ev → Prop
  | .snd x rs => x ∈ nodes ∧ recvB nodes x rs = true
  | .opn x s n => ∃ j, sentAt r nodes s n = some j ∧ x ∈ recvAt es j ∧ (r.opens x).all (fun p => decide (p.1 ≠ j)) = true
def Rs.next (r : Rs) (nodes : List Str) (i : Nat) : Ev → Rs
  | .snd x _ => ⟨fun y => if y = x then r.sends x ++ [i] else r.sends y, r.opens⟩
  | .opn x s n => ⟨r.sends, fun y => if y = x then r.opens x ++ [((sentAt r nodes s n).getD 0, i)] else r.opens y⟩
def Rs.upto (nodes : List Str) (es : List Ev) : Nat → Rs
  | 0 => .nil
  | i + 1 => match es[i]? with
    | some e => (Rs.upto nodes es i).next nodes i e
    | none => Rs.upto nodes es i
def OkTo (nodes : List Str) (es : List Ev) (k : Nat) : Prop := ∀ i, i < k → ∀ e, es[i]? = some e → evOk nodes es (Rs.upto nodes es i) e
def RunOk (nodes : List Str) (es : List Ev) : Prop := OkTo nodes es es.length
theorem upto_succ {nodes : List Str} {es : List Ev} {i : Nat} {e : Ev} (h : es[i]? = some e) : Rs.upto nodes es (i + 1) = (Rs.upto nodes es i).next nodes i e := by
  show (match es[i]? with | some e => (Rs.upto nodes es i).next nodes i e | none => Rs.upto nodes es i) = _
  rw [h]
/-! ### dicts over the nodes -/
theorem valV_in {h : Str → V} {x : Str} : ∀ {nodes : List Str}, x ∈ nodes → valV (nodes.map fun y => ((Sum.inr y : Key), h y)) (.inr x) = some (h x)
  | y :: r, hx => by
    rw [List.map_cons]
    by_cases e : y = x
    · subst e
      exact valV_pos rfl
    · rw [valV_neg (by simpa using e)]
      exact valV_in ((List.mem_cons.mp hx).resolve_left fun z => e z.symm)
theorem valV_out {h : Str → V} {x : Str} : ∀ {nodes : List Str}, x ∉ nodes → valV (nodes.map fun y => ((Sum.inr y : Key), h y)) (.inr x) = none
  | [], _ => rfl
  | y :: r, hx => by
    rw [List.map_cons, valV_neg (by simpa using fun z : y = x => hx (z ▸ List.mem_cons_self))]
    exact valV_out fun z => hx (List.mem_cons_of_mem _ z)
theorem keys_map {h : Str → V} {nodes : List Str} : KeysAre (nodes.map fun y => ((Sum.inr y : Key), h y)) nodes := fun r => by
  by_cases e : r ∈ nodes
  · rw [valV_in e, decide_eq_true e]
    rfl
  · rw [valV_out e, decide_eq_false e]
    rfl
abbrev ixs (l : List Nat) : List V := l.map fun i => V.int (i : Nat)
abbrev ops (l : List (Nat × Nat)) : List (Key × V) := l.map fun p => (Sum.inl ((p.1 : Nat) : Int), V.int (p.2 : Nat))
/-- the dict of the sends: its lists at f -/
structure SendsAt (H : Hp) (d : Addr) (nodes : List Str) (f : Str → Addr) (S : Str → List Nat) : Prop where
  at' : H d = some (.dK (nodes.map fun x => (Sum.inr x, V.ref (f x))))
  own : ∀ x ∈ nodes, H (f x) = some (.lst (ixs (S x)))
structure OpensAt (H : Hp) (d : Addr) (nodes : List Str) (g : Str → Addr) (O : Str → List (Nat × Nat)) : Prop where
  at' : H d = some (.dK (nodes.map fun x => (Sum.inr x, V.ref (g x))))
  own : ∀ x ∈ nodes, H (g x) = some (.dK (ops (O x)))
theorem SendsAt.same {H H' : Hp} {d : Addr} {nodes : List Str} {f : Str → Addr} {S : Str → List Nat} (h : SendsAt H d nodes f S) (s : Same H H') : SendsAt H' d nodes f S := ⟨s _ _ h.at', fun x hx => s _ _ (h.own x hx)⟩
theorem OpensAt.same {H H' : Hp} {d : Addr} {nodes : List Str} {f : Str → Addr} {S : Str → List (Nat × Nat)} (h : OpensAt H d nodes f S) (s : Same H H') : OpensAt H' d nodes f S := ⟨s _ _ h.at', fun x hx => s _ _ (h.own x hx)⟩
theorem valV_ops {j : Nat} : ∀ {l : List (Nat × Nat)}, (valV (ops l) (.inl ((j : Nat) : Int))).isSome = !l.all (fun p => decide (p.1 ≠ j))
  | [] => rfl
  | p :: r => by
    show (valV ((Sum.inl ((p.1 : Nat) : Int), V.int (p.2 : Nat)) :: ops r) _).isSome = _
    by_cases e : p.1 = j
    · subst e
      rw [valV_pos rfl]
      simp
    · rw [valV_neg (fun z => e (Int.ofNat.inj (Sum.inl.inj z))), valV_ops (j := j) (l := r)]
      simp [e]
end KA

set_option Elab.async false
set_option linter.all false
set_option maxRecDepth 100000
set_option maxHeartbeats 4000000
namespace KA
open PySem PySem.Spec PyProof.Rows L2 L2.Dx
def topS (i : Nat) : Stmt := PySem.Challenge.pw_waitlists_k02_messages_and_indices.main.body.getD i (.Pass ⟨0, 0, 0, 0⟩)
abbrev s_is_nodes : Stmt := topS 7
theorem sc_is_nodes : FnScope ["value", "previous", "entry", "letters"] ["value"] (defScope s_is_nodes) := ⟨rfl, rfl, rfl, by decide +kernel, rfl, by decide +kernel, by decide +kernel⟩
abbrev s_messages_of : Stmt := topS 8
theorem sc_messages_of : FnScope ["nodes", "run", "sends", "_", "node", "number", "index"] ["nodes", "run"] (defScope s_messages_of) := ⟨rfl, rfl, rfl, by decide +kernel, rfl, by decide +kernel, by decide +kernel⟩
abbrev s_send_index : Stmt := topS 9
theorem sc_send_index : FnScope ["nodes", "run", "message", "sends", "_"] ["nodes", "run", "message"] (defScope s_send_index) := ⟨rfl, rfl, rfl, by decide +kernel, rfl, by decide +kernel, by decide +kernel⟩
abbrev s_open_index : Stmt := topS 10
theorem sc_open_index : FnScope ["nodes", "run", "message", "node", "sends", "opens", "sent"] ["nodes", "run", "message", "node"] (defScope s_open_index) := ⟨rfl, rfl, rfl, by decide +kernel, rfl, by decide +kernel, by decide +kernel⟩
abbrev s_is_node : Stmt := topS 11
theorem sc_is_node : FnScope ["nodes", "value"] ["nodes", "value"] (defScope s_is_node) := ⟨rfl, rfl, rfl, by decide +kernel, rfl, by decide +kernel, by decide +kernel⟩
abbrev s_is_receivers : Stmt := topS 12
theorem sc_is_receivers : FnScope ["nodes", "node", "value", "previous", "entry"] ["nodes", "node", "value"] (defScope s_is_receivers) := ⟨rfl, rfl, rfl, by decide +kernel, rfl, by decide +kernel, by decide +kernel⟩
abbrev s_find_send : Stmt := topS 13
theorem sc_find_send : FnScope ["sends", "value", "sender", "number", "own"] ["sends", "value"] (defScope s_find_send) := ⟨rfl, rfl, rfl, by decide +kernel, rfl, by decide +kernel, by decide +kernel⟩
abbrev s_scan_run : Stmt := topS 14
theorem sc_scan_run : FnScope ["nodes", "value", "sends", "opens", "index", "event", "kind", "node", "detail", "own", "sender", "number", "sent"] ["nodes", "value"] (defScope s_scan_run) := ⟨rfl, rfl, rfl, by decide +kernel, rfl, by decide +kernel, by decide +kernel⟩
abbrev s_check_nodes : Stmt := topS 15
theorem sc_check_nodes : FnScope ["nodes"] ["nodes"] (defScope s_check_nodes) := ⟨rfl, rfl, rfl, by decide +kernel, rfl, by decide +kernel, by decide +kernel⟩
abbrev s_check_run : Stmt := topS 16
theorem sc_check_run : FnScope ["nodes", "run", "events"] ["nodes", "run"] (defScope s_check_run) := ⟨rfl, rfl, rfl, by decide +kernel, rfl, by decide +kernel, by decide +kernel⟩
abbrev s_check_node : Stmt := topS 17
theorem sc_check_node : FnScope ["nodes", "node"] ["nodes", "node"] (defScope s_check_node) := ⟨rfl, rfl, rfl, by decide +kernel, rfl, by decide +kernel, by decide +kernel⟩
abbrev s_check_message : Stmt := topS 18
theorem sc_check_message : FnScope ["sends", "message", "sent"] ["sends", "message"] (defScope s_check_message) := ⟨rfl, rfl, rfl, by decide +kernel, rfl, by decide +kernel, by decide +kernel⟩
abbrev s__law_seed : Stmt := topS 20
theorem sc__law_seed : FnScope ["script", "k", "cell"] ["script", "k"] (defScope s__law_seed) := ⟨rfl, rfl, rfl, by decide +kernel, rfl, by decide +kernel, by decide +kernel⟩
abbrev s__law_next : Stmt := topS 21
theorem sc__law_next : FnScope ["seed", "size", "found", "state"] ["seed", "size"] (defScope s__law_next) := ⟨rfl, rfl, rfl, by decide +kernel, rfl, by decide +kernel, by decide +kernel⟩
abbrev s__law_nodes : Stmt := topS 22
theorem sc__law_nodes : FnScope ["seed", "most", "pool", "turn"] ["seed", "most"] (defScope s__law_nodes) := ⟨rfl, rfl, rfl, by decide +kernel, rfl, by decide +kernel, by decide +kernel⟩
abbrev s__law_run : Stmt := topS 23
theorem sc__law_run : FnScope ["seed", "nodes", "most", "found", "counts", "waiting", "style", "turn", "node", "message", "others", "some", "receivers", "one"] ["seed", "nodes", "most"] (defScope s__law_run) := ⟨rfl, rfl, rfl, by decide +kernel, rfl, by decide +kernel, by decide +kernel⟩
abbrev s__law_sends : Stmt := topS 24
theorem sc__law_sends : FnScope ["run", "found", "counts", "index", "event"] ["run"] (defScope s__law_sends) := ⟨rfl, rfl, rfl, by decide +kernel, rfl, by decide +kernel, by decide +kernel⟩
abbrev s__law_right : Stmt := topS 25
theorem sc__law_right : FnScope ["seed", "nodes", "run", "kept", "sends", "due", "again", "told", "message", "messages", "turn", "node", "opens", "index", "event"] ["seed", "nodes", "run"] (defScope s__law_right) := ⟨rfl, rfl, rfl, by decide +kernel, rfl, by decide +kernel, by decide +kernel⟩
abbrev s_law : Stmt := topS 26
theorem sc_law : FnScope ["script", "k", "seed", "nodes", "run", "message", "event"] ["script"] (defScope s_law) := ⟨rfl, rfl, rfl, by decide +kernel, rfl, by decide +kernel, by decide +kernel⟩
/-- where the text's defs stand behind the top -/
structure Txt (K : PySem.W.Frag) (mg : Str → Option Value) where
  f_is_nodes : Addr
  fd_is_nodes : FuncData
  F_is_nodes : Fun K "is_nodes" "is_nodes" s_is_nodes f_is_nodes fd_is_nodes
  M_is_nodes : mg "is_nodes" = some (.ref f_is_nodes)
  f_messages_of : Addr
  fd_messages_of : FuncData
  F_messages_of : Fun K "messages_of" "messages_of" s_messages_of f_messages_of fd_messages_of
  M_messages_of : mg "messages_of" = some (.ref f_messages_of)
  f_send_index : Addr
  fd_send_index : FuncData
  F_send_index : Fun K "send_index" "send_index" s_send_index f_send_index fd_send_index
  M_send_index : mg "send_index" = some (.ref f_send_index)
  f_open_index : Addr
  fd_open_index : FuncData
  F_open_index : Fun K "open_index" "open_index" s_open_index f_open_index fd_open_index
  M_open_index : mg "open_index" = some (.ref f_open_index)
  f_is_node : Addr
  fd_is_node : FuncData
  F_is_node : Fun K "is_node" "is_node" s_is_node f_is_node fd_is_node
  M_is_node : mg "is_node" = some (.ref f_is_node)
  f_is_receivers : Addr
  fd_is_receivers : FuncData
  F_is_receivers : Fun K "is_receivers" "is_receivers" s_is_receivers f_is_receivers fd_is_receivers
  M_is_receivers : mg "is_receivers" = some (.ref f_is_receivers)
  f_find_send : Addr
  fd_find_send : FuncData
  F_find_send : Fun K "find_send" "find_send" s_find_send f_find_send fd_find_send
  M_find_send : mg "find_send" = some (.ref f_find_send)
  f_scan_run : Addr
  fd_scan_run : FuncData
  F_scan_run : Fun K "scan_run" "scan_run" s_scan_run f_scan_run fd_scan_run
  M_scan_run : mg "scan_run" = some (.ref f_scan_run)
  f_check_nodes : Addr
  fd_check_nodes : FuncData
  F_check_nodes : Fun K "check_nodes" "check_nodes" s_check_nodes f_check_nodes fd_check_nodes
  M_check_nodes : mg "check_nodes" = some (.ref f_check_nodes)
  f_check_run : Addr
  fd_check_run : FuncData
  F_check_run : Fun K "check_run" "check_run" s_check_run f_check_run fd_check_run
  M_check_run : mg "check_run" = some (.ref f_check_run)
  f_check_node : Addr
  fd_check_node : FuncData
  F_check_node : Fun K "check_node" "check_node" s_check_node f_check_node fd_check_node
  M_check_node : mg "check_node" = some (.ref f_check_node)
  f_check_message : Addr
  fd_check_message : FuncData
  F_check_message : Fun K "check_message" "check_message" s_check_message f_check_message fd_check_message
  M_check_message : mg "check_message" = some (.ref f_check_message)
  f__law_seed : Addr
  fd__law_seed : FuncData
  F__law_seed : Fun K "_law_seed" "_law_seed" s__law_seed f__law_seed fd__law_seed
  M__law_seed : mg "_law_seed" = some (.ref f__law_seed)
  f__law_next : Addr
  fd__law_next : FuncData
  F__law_next : Fun K "_law_next" "_law_next" s__law_next f__law_next fd__law_next
  M__law_next : mg "_law_next" = some (.ref f__law_next)
  f__law_nodes : Addr
  fd__law_nodes : FuncData
  F__law_nodes : Fun K "_law_nodes" "_law_nodes" s__law_nodes f__law_nodes fd__law_nodes
  M__law_nodes : mg "_law_nodes" = some (.ref f__law_nodes)
  f__law_run : Addr
  fd__law_run : FuncData
  F__law_run : Fun K "_law_run" "_law_run" s__law_run f__law_run fd__law_run
  M__law_run : mg "_law_run" = some (.ref f__law_run)
  f__law_sends : Addr
  fd__law_sends : FuncData
  F__law_sends : Fun K "_law_sends" "_law_sends" s__law_sends f__law_sends fd__law_sends
  M__law_sends : mg "_law_sends" = some (.ref f__law_sends)
  f__law_right : Addr
  fd__law_right : FuncData
  F__law_right : Fun K "_law_right" "_law_right" s__law_right f__law_right fd__law_right
  M__law_right : mg "_law_right" = some (.ref f__law_right)
  f_law : Addr
  fd_law : FuncData
  F_law : Fun K "law" "law" s_law f_law fd_law
  M_law : mg "law" = some (.ref f_law)
  m_isinstance : mg "isinstance" = none
  m_list : mg "list" = none
  m_str : mg "str" = none
  m_len : mg "len" = none
  m_tuple : mg "tuple" = none
  m_int : mg "int" = none
  m_bool : mg "bool" = none
  m_dict : mg "dict" = none
  m_sum : mg "sum" = none
  m_max : mg "max" = none
  m_min : mg "min" = none
  m_range : mg "range" = none
  m_enumerate : mg "enumerate" = none
  m_sorted : mg "sorted" = none
  m_zip : mg "zip" = none
  m_reversed : mg "reversed" = none
  m_abs : mg "abs" = none
  m_repr : mg "repr" = none
  m_set : mg "set" = none
  m_any : mg "any" = none
  m_all : mg "all" = none
section
variable {K : PySem.W.Frag} {mg : Str → Option Value}
theorem b_is_nodes (T : Txt K mg) : Binds K T.fd_is_nodes ["value"] [] := T.F_is_nodes.binds fun _ _ _ _ _ _ us hl => match us, hl with | [_], _ => rfl
theorem b_messages_of (T : Txt K mg) : Binds K T.fd_messages_of ["nodes", "run"] [] := T.F_messages_of.binds fun _ _ _ _ _ _ us hl => match us, hl with | [_, _], _ => rfl
theorem b_send_index (T : Txt K mg) : Binds K T.fd_send_index ["nodes", "run", "message"] [] := T.F_send_index.binds fun _ _ _ _ _ _ us hl => match us, hl with | [_, _, _], _ => rfl
theorem b_open_index (T : Txt K mg) : Binds K T.fd_open_index ["nodes", "run", "message", "node"] [] := T.F_open_index.binds fun _ _ _ _ _ _ us hl => match us, hl with | [_, _, _, _], _ => rfl
theorem b_is_node (T : Txt K mg) : Binds K T.fd_is_node ["nodes", "value"] [] := T.F_is_node.binds fun _ _ _ _ _ _ us hl => match us, hl with | [_, _], _ => rfl
theorem b_is_receivers (T : Txt K mg) : Binds K T.fd_is_receivers ["nodes", "node", "value"] [] := T.F_is_receivers.binds fun _ _ _ _ _ _ us hl => match us, hl with | [_, _, _], _ => rfl
theorem b_find_send (T : Txt K mg) : Binds K T.fd_find_send ["sends", "value"] [] := T.F_find_send.binds fun _ _ _ _ _ _ us hl => match us, hl with | [_, _], _ => rfl
theorem b_scan_run (T : Txt K mg) : Binds K T.fd_scan_run ["nodes", "value"] [] := T.F_scan_run.binds fun _ _ _ _ _ _ us hl => match us, hl with | [_, _], _ => rfl
theorem b_check_nodes (T : Txt K mg) : Binds K T.fd_check_nodes ["nodes"] [] := T.F_check_nodes.binds fun _ _ _ _ _ _ us hl => match us, hl with | [_], _ => rfl
theorem b_check_run (T : Txt K mg) : Binds K T.fd_check_run ["nodes", "run"] [] := T.F_check_run.binds fun _ _ _ _ _ _ us hl => match us, hl with | [_, _], _ => rfl
theorem b_check_node (T : Txt K mg) : Binds K T.fd_check_node ["nodes", "node"] [] := T.F_check_node.binds fun _ _ _ _ _ _ us hl => match us, hl with | [_, _], _ => rfl
theorem b_check_message (T : Txt K mg) : Binds K T.fd_check_message ["sends", "message"] [] := T.F_check_message.binds fun _ _ _ _ _ _ us hl => match us, hl with | [_, _], _ => rfl
theorem b__law_seed (T : Txt K mg) : Binds K T.fd__law_seed ["script", "k"] [] := T.F__law_seed.binds fun _ _ _ _ _ _ us hl => match us, hl with | [_, _], _ => rfl
theorem b__law_next (T : Txt K mg) : Binds K T.fd__law_next ["seed", "size"] [] := T.F__law_next.binds fun _ _ _ _ _ _ us hl => match us, hl with | [_, _], _ => rfl
theorem b__law_nodes (T : Txt K mg) : Binds K T.fd__law_nodes ["seed", "most"] [] := T.F__law_nodes.binds fun _ _ _ _ _ _ us hl => match us, hl with | [_, _], _ => rfl
theorem b__law_run (T : Txt K mg) : Binds K T.fd__law_run ["seed", "nodes", "most"] [] := T.F__law_run.binds fun _ _ _ _ _ _ us hl => match us, hl with | [_, _, _], _ => rfl
theorem b__law_sends (T : Txt K mg) : Binds K T.fd__law_sends ["run"] [] := T.F__law_sends.binds fun _ _ _ _ _ _ us hl => match us, hl with | [_], _ => rfl
theorem b__law_right (T : Txt K mg) : Binds K T.fd__law_right ["seed", "nodes", "run"] [] := T.F__law_right.binds fun _ _ _ _ _ _ us hl => match us, hl with | [_, _, _], _ => rfl
theorem b_law (T : Txt K mg) : Binds K T.fd_law ["script"] [] := T.F_law.binds fun _ _ _ _ _ _ us hl => match us, hl with | [_], _ => rfl
end

end KA

set_option Elab.async false
set_option linter.all false
set_option maxRecDepth 100000
set_option maxHeartbeats 4000000
namespace KA
open PySem PySem.Spec PyProof.Rows L2 L2.Dx
section
variable {P : Program} {w : World} {K : PySem.W.Frag} {mg : Str → Option Value} {base : Heap}
def sp_is_nodes (K : PySem.W.Frag) : Sp := fun vs H Q _ => ∃ (a : Addr) (ns : List Str), vs = [.ref a] ∧ H a = some (.lst (ns.map V.str)) ∧ NodesOk ns ∧ Q (.bl true) H
theorem ok_is_nodes (T : Txt K mg) :
    FnOk P w K mg base CX0 1 T.f_is_nodes T.fd_is_nodes ["value"] (sp_is_nodes K) := by
  refine T.F_is_nodes.ok sc_is_nodes (fun vs H Q E h => ?_) (fun cdv A outer s H vs Q E hr h => ?_)
  · obtain ⟨a, ns, rfl, _⟩ := h
    rfl
  · obtain ⟨a, ns, rfl, ha, hn, q⟩ := h
    refine ⟨_, (pss_cons (ps_if (PW.pt (pw_or (pt_not (pt_val (pe_callB call_isi (by rfl) T.m_isinstance (by decide +kernel) (pa_cons (pv 0) (pa_cons (pe_bltn (v := .ty "list") (by rfl) T.m_list (by decide +kernel) rfl) pa_nil))))) (pw_or1 (pt_not (pt_chain op_le op_le pe_int (pe_callB call_len_seq (by rfl) T.m_len PySem.boot_len (pa_cons (pv 0) pa_nil)) pe_int)))))
      (pss_one (ps_ret pe_bl))
      pss_nil)
    (pss_cons (ps_set (i := 1) sc_is_nodes.nd rfl (by first | exact .inl rfl | exact .inr rfl) pe_str)
    (pss_cons (ps_for PassesOwn.never rfl (pi_list (pv 0)) (pg_name (i := 2) sc_is_nodes.nd rfl (by first | exact .inl rfl | exact .inr rfl))
      (pss_cons (ps_if (PW.pt (pw_or (pt_not (pt_val (pe_callB call_isi (by rfl) T.m_isinstance (by decide +kernel) (pa_cons (pv 2) (pa_cons (pe_bltn (v := .ty "str") (by rfl) T.m_str (by decide +kernel) rfl) pa_nil))))) (pw_or (pt_cmpR op_le_str (pv 2) (pv 1) (nomark _)) (pw_or1 (pt_cmpR op_gt (pe_callB call_len_str (by rfl) T.m_len PySem.boot_len (pa_cons (pv 2) pa_nil)) pe_int (nomark _))))))
        (pss_one (ps_ret pe_bl))
        pss_nil)
      (pss_one (ps_set (i := 1) sc_is_nodes.nd rfl (by first | exact .inl rfl | exact .inr rfl) (pv 2)))))
    (pss_cons (ps_set (i := 3) sc_is_nodes.nd rfl (by first | exact .inl rfl | exact .inr rfl) (pe_join pe_str (pv 0)))
    (pss_one (ps_ret (pe_and (pe_m0 PySem.F.slot_str_isascii PySem.F.type_str_isascii mt_isascii (pv 3)) (pe_and (pe_m0 PySem.F.slot_str_isalpha PySem.F.type_str_isalpha mt_isalpha (pv 3)) (pe_one (pe_m0 PySem.F.slot_str_islower PySem.F.type_str_islower mt_islower (pv 3))))))))))), ?_⟩
    have l1 := hn.lo
    have l2 := hn.hi
    refine ⟨.ref a, rfl, _, _, _, _, true, rfl, .ty "list", .base (.lst ha), kit_ty (by decide +kernel), true, rfl, iteF ?_⟩
    refine ⟨_, rfl, a, ns.map V.str, rfl, .inl (ltI ha), 2, _, rfl, rfl, true, ?_, iteT ⟨_, _, rfl, rfl, true, ?_, iteF ?_⟩⟩
    · show V.bl (decide ((2 : Int) ≤ ((ns.map V.str).length : Nat))) = .bl true
      rw [List.length_map, decide_eq_true (by omega)]
    · show V.bl (decide ((((ns.map V.str).length : Nat) : Int) ≤ 12)) = .bl true
      rw [List.length_map, decide_eq_true (by omega)]
    -- the loop
    refine ⟨.ref a, rfl, a, rfl, ⟨_, ltI ha⟩, for_list (xs := ns.map V.str) (fun i σ H' => H' = H ∧ ∃ z y, σ = [some (.ref a), some (.str z), y, none] ∧ ∀ x, ns[i]? = some x → ltS z x) ?_ ?_ ?_ ?_⟩
    · refine ⟨rfl, "", none, rfl, fun x hx => empty_lt (hn.nm x (List.mem_of_getElem? hx))⟩
    · rintro i σ H' _ ⟨rfl, _⟩
      exact ltI ha
    · rintro i x σ H' hx ⟨rfl, z, y, rfl, hz⟩
      rw [List.getElem?_map] at hx
      obtain ⟨n, hx1, rfl⟩ := Option.map_eq_some_iff.mp hx
      have on := hn.nm n (List.mem_of_getElem? hx1)
      have o8 := on.hi
      refine ⟨.str n, rfl, _, _, _, _, true, rfl, .ty "str", .base (.str n), kit_ty (by decide +kernel), true, rfl, iteF ?_⟩
      refine ⟨.str n, rfl, .str z, rfl, n, z, rfl, rfl, false, ?_, iteF ?_⟩
      · rw [decide_eq_true (hz n hx1)]
        rfl
      refine ⟨.str n, rfl, n, rfl, Nat.le_trans o8 (by decide), _, 8, rfl, rfl, false, ?_, iteF ?_⟩
      · show V.bl (decide ((8 : Int) < (n.length : Nat))) = .bl false
        rw [decide_eq_false (by omega)]
      refine ⟨.str n, rfl, rfl, n, _, rfl, fun x hx2 => ?_⟩
      have p := hn.asc
      rw [List.pairwise_iff_getElem] at p
      obtain ⟨h1, e1⟩ := List.getElem?_eq_some_iff.mp hx1
      obtain ⟨h2, e2⟩ := List.getElem?_eq_some_iff.mp hx2
      have := p i (i + 1) h1 h2 (Nat.lt_succ_self i)
      rwa [e1, e2] at this
    · rintro σ H' ⟨rfl, z, y, rfl, _⟩
      obtain ⟨t1, t2, t3⟩ := nodes_text hn
      have hl : (ns.map (·.length)).sum ≤ 96 := Nat.le_trans (sum_len ns fun z hz => (hn.nm z hz).hi) (by omega)
      refine ⟨⟨_, rfl⟩, .ref a, rfl, "", a, ns, rfl, rfl, .inl (ltI ha), ?_, ?_⟩
      · show (ns.map (·.length)).sum + ns.length * 0 ≤ 16777216
        omega
      refine ⟨_, rfl, ⟨_, rfl⟩, _, rfl, rfl, trivial, true, ?_, iteT ⟨_, rfl, ⟨_, rfl⟩, _, rfl, rfl, trivial, true, ?_, iteT ⟨_, rfl, ⟨_, rfl⟩, _, rfl, rfl, trivial, ?_⟩⟩⟩
      · rw [t1]
      · rw [t2]
      · rw [t3]
        exact q

def sp_is_node (K : PySem.W.Frag) : Sp := fun vs H Q _ => ∃ (a : Addr) (ns : List Str) (x : Str), vs = [.ref a, .str x] ∧ H a = some (.lst (ns.map V.str)) ∧ Q (.bl (decide (x ∈ ns))) H
theorem inV_str {x : Str} : ∀ {ns : List Str}, inV (.str x) (ns.map V.str) = decide (x ∈ ns)
  | [] => rfl
  | y :: r => by
    have ih := @inV_str x r
    unfold inV at ih ⊢
    rw [List.map_cons, List.any_cons, ih]
    by_cases e : y = x
    · subst e
      simp [eqV]
    · have e2 : eqV (.str y) (.str x) = false := by
        show decide (y = x) = false
        exact decide_eq_false e
      rw [e2]
      simp [Ne.symm e]
theorem flat_str : ∀ (ns : List Str), (ns.map V.str).all flatV = true
  | [] => rfl
  | y :: r => by
    rw [List.map_cons, List.all_cons, flat_str r]
    rfl
theorem ok_is_node (T : Txt K mg) :
    FnOk P w K mg base CX0 1 T.f_is_node T.fd_is_node ["nodes", "value"] (sp_is_node K) := by
  refine T.F_is_node.ok sc_is_node (fun vs H Q E h => ?_) (fun cdv A outer s H vs Q E hr h => ?_)
  · obtain ⟨a, ns, x, rfl, _⟩ := h
    rfl
  · obtain ⟨a, ns, x, rfl, ha, q⟩ := h
    refine ⟨_, (pss_one (ps_ret (pe_and (pe_callB call_isi (by rfl) T.m_isinstance (by decide +kernel) (pa_cons (pv 1) (pa_cons (pe_bltn (v := .ty "str") (by rfl) T.m_str (by decide +kernel) rfl) pa_nil))) (pe_one (pe_cmpR op_in_seq (pv 1) (pv 0) rfl))))), ?_⟩
    refine ⟨.str x, rfl, _, _, _, _, true, rfl, .ty "str", .base (.str x), kit_ty (by decide +kernel), true, rfl, iteT ?_⟩
    refine ⟨.str x, rfl, .ref a, rfl, a, ns.map V.str, rfl, .inl (ltI ha), rfl, flat_str ns, ?_⟩
    rw [inV_str]
    exact q
def sp_is_receivers (K : PySem.W.Frag) : Sp := fun vs H Q _ => ∃ (d l : Addr) (kvs : List (Key × V)) (ns rs : List Str) (x : Str), vs = [.ref d, .str x, .ref l] ∧ H d = some (.dK kvs) ∧ KeysAre kvs ns ∧ H l = some (.lst (rs.map V.str)) ∧ Q (.bl (recvB ns x rs)) H
theorem ok_is_receivers (T : Txt K mg) :
    FnOk P w K mg base CX0 1 T.f_is_receivers T.fd_is_receivers ["nodes", "node", "value"] (sp_is_receivers K) := by
  refine T.F_is_receivers.ok sc_is_receivers (fun vs H Q E h => ?_) (fun cdv A outer s H vs Q E hr h => ?_)
  · obtain ⟨d, l, kvs, ns, rs, x, rfl, _⟩ := h
    rfl
  · obtain ⟨d, l, kvs, ns, rs, x, rfl, hd, hk, hl, q⟩ := h
    refine ⟨_, (pss_cons (ps_if (PW.pt (pw_or (pt_not (pt_val (pe_callB call_isi (by rfl) T.m_isinstance (by decide +kernel) (pa_cons (pv 2) (pa_cons (pe_bltn (v := .ty "list") (by rfl) T.m_list (by decide +kernel) rfl) pa_nil))))) (pw_or1 (pt_not (pt_truth (pv 2) (fun _ => rfl))))))
      (pss_one (ps_ret pe_bl))
      pss_nil)
    (pss_cons (ps_set (i := 3) sc_is_receivers.nd rfl (by first | exact .inl rfl | exact .inr rfl) pe_str)
    (pss_cons (ps_for PassesOwn.never rfl (pi_list (pv 2)) (pg_name (i := 4) sc_is_receivers.nd rfl (by first | exact .inl rfl | exact .inr rfl))
      (pss_cons (ps_if (PW.pt (pw_or (pt_not (pt_val (pe_callB call_isi (by rfl) T.m_isinstance (by decide +kernel) (pa_cons (pv 4) (pa_cons (pe_bltn (v := .ty "str") (by rfl) T.m_str (by decide +kernel) rfl) pa_nil))))) (pw_or (pt_cmp (pc_dnotin (hu_of hr) (pv 4) (pv 0))) (pw_or (pt_cmpR op_le_str (pv 4) (pv 3) (nomark _)) (pw_or1 (pt_cmpR op_eq (pv 4) (pv 1) (nomark _)))))))
        (pss_one (ps_ret pe_bl))
        pss_nil)
      (pss_one (ps_set (i := 3) sc_is_receivers.nd rfl (by first | exact .inl rfl | exact .inr rfl) (pv 4)))))
    (pss_one (ps_ret pe_bl))))), ?_⟩
    refine ⟨.ref l, rfl, _, _, _, _, true, rfl, .ty "list", .base (.lst hl), kit_ty (by decide +kernel), true, rfl, iteF ?_⟩
    refine ⟨.ref l, rfl, !(rs.map V.str).isEmpty, .inl ⟨_, ltI hl, rfl⟩, ?_⟩
    cases hrs : rs with
    | nil =>
      rw [hrs] at q
      exact iteT q
    | cons r0 rt =>
    rw [← hrs]
    have hne : (rs.map V.str).isEmpty = false := by rw [hrs]; rfl
    rw [hne]
    refine iteF ?_
    have hb : recvB ns x rs = recvGo ns x "" rs := by
      unfold recvB
      rw [show rs.isEmpty = false by rw [hrs]; rfl]
      rfl
    rw [hb] at q
    refine ⟨.ref l, rfl, l, rfl, ⟨_, ltI hl⟩, for_list (xs := rs.map V.str) (fun i σ H' => H' = H ∧ ∃ z y, σ = [some (.ref d), some (.str x), some (.ref l), some (.str z), y] ∧ recvGo ns x "" rs = recvGo ns x z (rs.drop i)) ?_ ?_ ?_ ?_⟩
    · exact ⟨rfl, "", none, rfl, rfl⟩
    · rintro i σ H' _ ⟨rfl, _⟩
      exact ltI hl
    · rintro i v σ H' hx ⟨rfl, z, y, rfl, hz⟩
      rw [List.getElem?_map] at hx
      obtain ⟨n, hx1, rfl⟩ := Option.map_eq_some_iff.mp hx
      have hdrop : rs.drop i = n :: rs.drop (i + 1) := by
        obtain ⟨h1, e1⟩ := List.getElem?_eq_some_iff.mp hx1
        rw [← e1]
        exact List.drop_eq_getElem_cons h1
      rw [hdrop, recvGo_cons] at hz
      refine ⟨.str n, rfl, _, _, _, _, true, rfl, .ty "str", .base (.str n), kit_ty (by decide +kernel), true, rfl, iteF ?_⟩
      refine ⟨.str n, rfl, .ref d, rfl, d, _, rfl, DGet.k (k := Sum.inr n) hd, _, rfl, ?_⟩
      rw [hk n]
      by_cases c1 : n ∈ ns
      · rw [decide_eq_true c1] at hz ⊢
        refine iteF ?_
        refine ⟨.str n, rfl, .str z, rfl, n, z, rfl, rfl, _, rfl, ?_⟩
        by_cases c2 : z.cps.toList < n.cps.toList
        · rw [decide_eq_true c2] at hz ⊢
          refine iteF ⟨.str n, rfl, .str x, rfl, rfl, decide (n = x), ?_, ?_⟩
          · simp
          by_cases c3 : n = x
          · rw [decide_eq_true c3]
            rw [decide_eq_false (not_not_intro c3)] at hz
            refine iteT ?_
            rw [hz] at q
            exact q
          · rw [decide_eq_false c3]
            rw [decide_eq_true c3] at hz
            refine iteF ⟨.str n, rfl, rfl, n, _, rfl, ?_⟩
            simpa using hz
        · rw [decide_eq_false c2] at hz ⊢
          refine iteT ?_
          have hz' : recvGo ns x "" rs = false := by simpa using hz
          rw [hz'] at q
          exact q
      · rw [decide_eq_false c1] at hz ⊢
        refine iteT ?_
        have hz' : recvGo ns x "" rs = false := by simpa using hz
        rw [hz'] at q
        exact q
    · rintro σ H' ⟨rfl, z, y, rfl, hz⟩
      rw [List.length_map, List.drop_length] at hz
      rw [hz] at q
      exact q
end
end KA

set_option Elab.async false
set_option linter.all false
set_option maxRecDepth 100000
set_option maxHeartbeats 4000000
namespace KA
open PySem PySem.Spec PyProof.Rows L2 L2.Dx
section
variable {P : Program} {w : World} {K : PySem.W.Frag} {mg : Str → Option Value} {base : Heap}
def sp_find_send : Sp := fun vs H Q _ => ∃ (d m : Addr) (nodes : List Str) (fa : Str → Addr) (r : Rs) (s : Str) (n : Int), vs = [.ref d, .ref m] ∧ SendsAt H d nodes fa r.sends ∧ H m = some (.tup [.str s, .int n]) ∧
  Q (match sentAt r nodes s n with | some j => .int (j : Nat) | none => .non) H
theorem ok_find_send (T : Txt K mg) :
    FnOk P w K mg base CX0 1 T.f_find_send T.fd_find_send ["sends", "value"] sp_find_send := by
  refine T.F_find_send.ok sc_find_send (fun vs H Q E h => ?_) (fun cdv A outer s H vs Q E hr h => ?_)
  · obtain ⟨d, m, nodes, fa, r, s, n, rfl, _⟩ := h
    rfl
  · obtain ⟨d, m, nodes, fa, r, sd, n, rfl, hS, hm, q⟩ := h
    refine ⟨_, (pss_cons (ps_if (PW.pt (pw_or (pt_not (pt_val (pe_callB call_isi (by rfl) T.m_isinstance (by decide +kernel) (pa_cons (pv 1) (pa_cons (pe_bltn (v := .ty "tuple") (by rfl) T.m_tuple (by decide +kernel) rfl) pa_nil))))) (pw_or1 (pt_cmpR op_ne (pe_callB call_len_seq (by rfl) T.m_len PySem.boot_len (pa_cons (pv 1) pa_nil)) pe_int (nomark _)))))
      (pss_one (ps_ret pe_non))
      pss_nil)
    (pss_cons (ps_asg (pv 1) (pg_tup rfl (pgs_cons (pg_name (i := 2) sc_find_send.nd rfl (by first | exact .inl rfl | exact .inr rfl)) (pgs_cons (pg_name (i := 3) sc_find_send.nd rfl (by first | exact .inl rfl | exact .inr rfl)) pgs_nil))))
    (pss_cons (ps_if (PW.pt (pw_or (pt_not (pt_val (pe_callB call_isi (by rfl) T.m_isinstance (by decide +kernel) (pa_cons (pv 2) (pa_cons (pe_bltn (v := .ty "str") (by rfl) T.m_str (by decide +kernel) rfl) pa_nil))))) (pw_or (pt_cmp (pc_dnotin (hu_of hr) (pv 2) (pv 0))) (pw_or (pt_not (pt_val (pe_callB call_isi (by rfl) T.m_isinstance (by decide +kernel) (pa_cons (pv 3) (pa_cons (pe_bltn (v := .ty "int") (by rfl) T.m_int (by decide +kernel) rfl) pa_nil))))) (pw_or1 (pt_cmpR op_is_ib (pv 3) pe_bl (nomark _)))))))
      (pss_one (ps_ret pe_non))
      pss_nil)
    (pss_cons (ps_set (i := 4) sc_find_send.nd rfl (by first | exact .inl rfl | exact .inr rfl) (pe_dget (hu_of hr) (pv 0) (pv 2) (fun _ _ => rfl)))
    (pss_one (ps_ret (pe_ifExp (pt_chain op_lt op_le pe_int (pv 3) (pe_callB call_len_seq (by rfl) T.m_len PySem.boot_len (pa_cons (pv 4) pa_nil))) (pe_ix ix_list (pv 4) (pe_op op_sub (pv 3) pe_int) (fun _ _ => rfl)) pe_non))))))), ?_⟩
    refine ⟨.ref m, rfl, _, _, _, _, true, rfl, .ty "tuple", .base (.tup hm), kit_ty (by decide +kernel), true, rfl, iteF ?_⟩
    refine ⟨.ref m, rfl, m, _, rfl, .inr (tpI hm), rfl, false, rfl, iteF ?_⟩
    refine ⟨.ref m, rfl, m, _, rfl, tpI hm, rfl, .str sd, _, rfl, .int n, _, rfl, rfl, ?_⟩
    refine ⟨.str sd, rfl, _, _, _, _, true, rfl, .ty "str", .base (.str sd), kit_ty (by decide +kernel), true, rfl, iteF ?_⟩
    refine ⟨.str sd, rfl, .ref d, rfl, d, _, rfl, DGet.k (k := Sum.inr sd) hS.at', _, rfl, ?_⟩
    unfold sentAt at q
    by_cases c1 : sd ∈ nodes
    · rw [valV_in c1]
      refine iteF ⟨.int n, rfl, _, _, _, _, true, rfl, .ty "int", .base (.int n), kit_ty (by decide +kernel), true, rfl, iteF ?_⟩
      refine ⟨.int n, rfl, n, true, rfl, rfl, false, rfl, iteF ?_⟩
      refine ⟨.ref d, rfl, .str sd, rfl, d, .ref (fa sd), rfl, by rw [← valV_in (h := fun x => V.ref (fa x)) c1]; exact DGet.k (k := Sum.inr sd) hS.at', ?_⟩
      have ho := hS.own sd c1
      refine ⟨.int n, rfl, 0, n, rfl, rfl, _, rfl, ?_⟩
      by_cases c2 : 0 < n
      · rw [if_pos ⟨c1, c2⟩] at q
        rw [decide_eq_true c2]
        refine iteT ⟨.ref (fa sd), rfl, fa sd, _, rfl, .inl (ltI ho), n, _, rfl, rfl, _, rfl, ?_⟩
        by_cases c3 : (n - 1).toNat < (r.sends sd).length
        · rw [List.getElem?_eq_getElem c3] at q
          rw [decide_eq_true (by rw [List.length_map]; omega)]
          refine iteT ⟨.ref (fa sd), rfl, .int n, rfl, n, 1, rfl, rfl, fa sd, _, n - 1, .int (((r.sends sd)[(n - 1).toNat] : Nat) : Int), rfl, rfl, ltI ho, ?_, q⟩
          exact at_of (j := (n - 1).toNat) (by omega) (by rw [List.getElem?_map, List.getElem?_eq_getElem c3]; rfl)
        · rw [List.getElem?_eq_none (by omega)] at q
          rw [decide_eq_false (by rw [List.length_map]; omega)]
          exact iteF q
      · rw [if_neg (fun z => c2 z.2)] at q
        rw [decide_eq_false c2]
        exact ⟨false, rfl, iteF q⟩
    · rw [valV_out c1]
      rw [if_neg (fun z => c1 z.1)] at q
      exact iteT q
end
end KA

set_option Elab.async false
set_option linter.all false
set_option maxRecDepth 100000
set_option maxHeartbeats 4000000
namespace L2.Dx
open PySem PySem.Spec PyProof.Rows L2
/-- a dict comprehension over a list that stays -/
theorem dc_list {K : PySem.W.Frag} {a : Addr} {xs : List V} {g : TG} {tt : TT} {tk tv : TE} {vs : List Nat} {σ : St} {H1 : Hp} {D : Addr} {Qd : Hp → Prop} (Pv : Nat → Hp → Prop) (h0 : Pv 0 (upd H1 D (.dK []))) (hl : ∀ i H, i ≤ xs.length → Pv i H → SqL K H a xs)
    (hs : ∀ i x H, xs[i]? = some x → Pv i H → g x (wipe σ vs) H fun σ2 H2 => wipe σ2 vs = wipe σ vs ∧ tt σ2 H2 fun b H3 =>
      if b = true then tk σ2 H3 fun y H4 => tv σ2 H4 fun z H5 => ∃ kvs k, y = kV k ∧ H5 D = some (.dK kvs) ∧ kvs.length < sizeLine ∧ Pv (i + 1) (upd H5 D (.dK (putK kvs k z))) else Pv (i + 1) H3) (hd : ∀ H, Pv xs.length H → Qd H) :
    ∃ W : Nat → Nat → Hp → Prop, (∃ m, W 0 m (upd H1 D (.dK []))) ∧ ∀ i m H, W i m H →
      ((Itl K a).stop i H ∧ Qd H) ∨ ((Itl K a).go i H ∧ ∃ Nx : Hp → Prop, (∀ H', Nx H' → ∃ m', m' < m ∧ W (i + 1) m' H') ∧ ∀ x H', (Itl K a).yld i H x H' → g x (wipe σ vs) H' fun σ2 H2 => wipe σ2 vs = wipe σ vs ∧ tt σ2 H2 fun b H3 =>
        if b = true then tk σ2 H3 fun y H4 => tv σ2 H4 fun z H5 => ∃ kvs k, y = kV k ∧ H5 D = some (.dK kvs) ∧ kvs.length < sizeLine ∧ Nx (upd H5 D (.dK (putK kvs k z))) else Nx H3) := by
  refine ⟨fun i m H => m = xs.length - i ∧ i ≤ xs.length ∧ Pv i H, ⟨_, rfl, Nat.zero_le _, h0⟩, fun i m H ⟨em, hi, p⟩ => ?_⟩
  subst em
  rcases Nat.lt_or_ge i xs.length with lt | ge
  · refine .inr ⟨⟨xs, xs[i], hl i H hi p, List.getElem?_eq_getElem lt⟩, Pv (i + 1), fun H' p' => ⟨_, by omega, rfl, lt, p'⟩, fun x H' ⟨e, y⟩ => ?_⟩
    subst e
    exact hs i x _ (y xs (hl i _ hi p)) p
  · have e : xs.length = i := Nat.le_antisymm ge hi
    subst e
    exact .inl ⟨⟨xs, hl _ H hi p, Nat.le_refl _⟩, hd H p⟩
/-- a for over enumerate(list), the list stays -/
theorem for_enum {K : PySem.W.Frag} {a : Addr} {xs : List V} {g : TG} {tb : TS} {D : Ends} {σ : St} {H : Hp} (Pv : Nat → St → Hp → Prop) (h0 : Pv 0 σ H) (hl : ∀ i σ H, i ≤ xs.length → Pv i σ H → SqL K H a xs)
    (hs : ∀ i x σ H T, xs[i]? = some x → Pv i σ H → H T = none → g (.ref T) σ (upd H T (.tup [.int (i : Nat), x])) fun σ2 H2 => tb { D with nx := Pv (i + 1), ct := Pv (i + 1), bk := D.nx } σ2 H2) (hd : ∀ σ H, Pv xs.length σ H → D.nx σ H) :
    ∃ W : Nat → Nat → St → Hp → Prop, (∃ m, W 0 m σ H) ∧ ∀ i m σ H, W i m σ H →
      ((Ite K a).stop i H ∧ D.nx σ H) ∨ ((Ite K a).go i H ∧ ∃ N : St → Hp → Prop, (∀ σ' H', N σ' H' → ∃ m', m' < m ∧ W (i + 1) m' σ' H') ∧ ∀ x H', (Ite K a).yld i H x H' → g x σ H' fun σ2 H2 => tb { D with nx := N, ct := N, bk := D.nx } σ2 H2) := by
  refine ⟨fun i m σ H => m = xs.length - i ∧ i ≤ xs.length ∧ Pv i σ H, ⟨_, rfl, Nat.zero_le _, h0⟩, fun i m σ H ⟨em, hi, p⟩ => ?_⟩
  subst em
  rcases Nat.lt_or_ge i xs.length with lt | ge
  · refine .inr ⟨⟨xs, xs[i], hl i σ H hi p, List.getElem?_eq_getElem lt⟩, Pv (i + 1), fun σ' H' p' => ⟨_, by omega, rfl, lt, p'⟩, fun v H' ⟨T, x, ev, nT, eH, y⟩ => ?_⟩
    subst ev eH
    exact hs i x _ _ T (y xs (hl i _ _ hi p)) p nT
  · have e : xs.length = i := Nat.le_antisymm ge hi
    subst e
    exact .inl ⟨⟨xs, hl _ σ H hi p, Nat.le_refl _⟩, hd σ H p⟩
end L2.Dx
namespace KA
open PySem PySem.Spec PyProof.Rows L2 L2.Dx
theorem take_snoc {α : Type} {l : List α} {i : Nat} {x : α} (h : l[i]? = some x) : l.take (i + 1) = l.take i ++ [x] := by
  obtain ⟨h1, e⟩ := List.getElem?_eq_some_iff.mp h
  rw [List.take_succ, h]
  rfl
theorem notin_take {α : Type} {l : List α} {i : Nat} {x : α} (nd : l.Nodup) (h : l[i]? = some x) : x ∉ l.take i := fun hm => by
  obtain ⟨j, hj⟩ := List.getElem?_of_mem hm
  rw [List.getElem?_take] at hj
  by_cases c : j < i
  · rw [if_pos c] at hj
    have := nd_ix nd hj h
    omega
  · rw [if_neg c] at hj
    cases hj
/-- {x: a new empty thing for x in nodes} -/
theorem dc_nodes {K : PySem.W.Frag} {σ : L2.St} {H : Hp} {N D : Addr} {nodes : List Str} {o0 : HO} {j : Nat} {tv : TE} {Qd : Hp → Prop} (hj : j < σ.length) (hN : H N = some (.lst (nodes.map V.str))) (nd : nodes.Nodup) (hl : nodes.length ≤ 1000) (hD : H D = none)
    (hv : ∀ (σ : L2.St) (H : Hp) (Q : VK), (∀ p, H p = none → Q (.ref p) (upd H p o0)) → tv σ H Q)
    (q : ∀ (H' : Hp) (f : Str → Addr), Same H H' → H' D = some (.dK (nodes.map fun x => (Sum.inr x, V.ref (f x)))) → (∀ x ∈ nodes, H' (f x) = some o0 ∧ H (f x) = none ∧ f x ≠ D) → (∀ x ∈ nodes, ∀ y ∈ nodes, f x = f y → x = y) → Qd H') :
    ∃ W : Nat → Nat → Hp → Prop, (∃ m, W 0 m (upd H D (.dK []))) ∧ ∀ i m H, W i m H →
      ((Itl K N).stop i H ∧ Qd H) ∨ ((Itl K N).go i H ∧ ∃ Nx : Hp → Prop, (∀ H', Nx H' → ∃ m', m' < m ∧ W (i + 1) m' H') ∧ ∀ x H', (Itl K N).yld i H x H' → gName j x (wipe σ [j]) H' fun σ2 H2 => wipe σ2 [j] = wipe σ [j] ∧ tYes σ2 H2 fun b H3 =>
        if b = true then tVar j σ2 H3 fun y H4 => tv σ2 H4 fun z H5 => ∃ kvs k, y = kV k ∧ H5 D = some (.dK kvs) ∧ kvs.length < sizeLine ∧ Nx (upd H5 D (.dK (putK kvs k z))) else Nx H3) := by
  have hl' : nodes.length < sizeLine := small1000 hl
  refine dc_list (xs := nodes.map V.str) (fun i H' => Same H H' ∧ ∃ f : Str → Addr, H' D = some (.dK ((nodes.take i).map fun x => (Sum.inr x, V.ref (f x)))) ∧ (∀ x ∈ nodes.take i, H' (f x) = some o0 ∧ H (f x) = none ∧ f x ≠ D) ∧ ∀ x ∈ nodes.take i, ∀ y ∈ nodes.take i, f x = f y → x = y) ?_ ?_ ?_ ?_
  · exact ⟨same_new hD, fun _ => 0, upd_same, fun x hx => by simp at hx, fun x hx => by simp at hx⟩
  · exact fun i H' _ ⟨sm, _⟩ => ltI (sm _ _ hN)
  · rintro i v H' hx ⟨sm, f, hd, hf, inj⟩
    rw [List.getElem?_map] at hx
    obtain ⟨n, hn, rfl⟩ := Option.map_eq_some_iff.mp hx
    have nin := notin_take nd hn
    have hset : ((wipe σ [j]).set j (some (V.str n)))[j]? = some (some (V.str n)) := by
      rw [List.getElem?_set_self]
      rw [wipe_length]
      exact hj
    refine ⟨by simp [wipe, List.set_set], ?_⟩
    unfold tYes
    dsimp only
    rw [if_pos rfl]
    refine ⟨_, hset, hv _ _ _ fun p hp => ?_⟩
    have ndp : D ≠ p := ne_of_none hd hp
    refine ⟨_, Sum.inr n, rfl, (upd_ne ndp).trans hd, by rw [List.length_map]; exact Nat.lt_of_le_of_lt (List.length_take_le' _ _) hl', ?_⟩
    have hp0 : H p = none := sm.free hp
    refine ⟨same_put (same_put sm hp0) hD, fun y => if y = n then p else f y, ?_, ?_, ?_⟩
    · rw [upd_same, putK_new _ (valV_out nin), take_snoc hn, List.map_append]
      congr 2
      congr 1
      · refine List.map_congr_left fun y hy => ?_
        dsimp only
        rw [if_neg fun (z : y = n) => nin (by rw [← z]; exact hy)]
      · simp
    · intro x hx
      rw [take_snoc hn] at hx
      dsimp only
      by_cases e : x = n
      · rw [if_pos e, upd_ne (Ne.symm ndp), upd_same]
        exact ⟨rfl, hp0, Ne.symm ndp⟩
      · obtain ⟨k1, k2, k3⟩ := hf x ((List.mem_append.mp hx).resolve_right fun z => e (List.mem_singleton.mp z))
        rw [if_neg e, upd_ne k3, upd_ne (ne_of_none k1 hp)]
        exact ⟨k1, k2, k3⟩
    · intro x hx y hy
      rw [take_snoc hn] at hx hy
      dsimp only
      by_cases e : x = n <;> by_cases e' : y = n
      · intro _; rw [e, e']
      · rw [if_pos e, if_neg e']
        intro z
        have := (hf y ((List.mem_append.mp hy).resolve_right fun z => e' (List.mem_singleton.mp z))).1
        rw [← z, hp] at this
        cases this
      · rw [if_neg e, if_pos e']
        intro z
        have := (hf x ((List.mem_append.mp hx).resolve_right fun z => e (List.mem_singleton.mp z))).1
        rw [z, hp] at this
        cases this
      · rw [if_neg e, if_neg e']
        exact inj x ((List.mem_append.mp hx).resolve_right fun z => e (List.mem_singleton.mp z)) y ((List.mem_append.mp hy).resolve_right fun z => e' (List.mem_singleton.mp z))
  · rintro H' ⟨sm, f, hd, hf, inj⟩
    rw [List.length_map, List.take_length] at hd hf inj
    exact q H' f sm hd hf inj
/-! ### lists of texts as data -/
theorem dp_strs {K : PySem.W.Frag} {H : Hp} : ∀ (rs : List Str), DpAll K H (rs.map V.str) (rs.map PyData.str)
  | [] => .nil
  | x :: r => .cons (.str x) (dp_strs r)
theorem eqv_strs : ∀ (rs ts : List Str), PyData.eqvAll (rs.map PyData.str) (ts.map PyData.str) = decide (rs = ts)
  | [], [] => rfl
  | [], y :: t => rfl
  | x :: r, [] => rfl
  | x :: r, y :: t => by
    show (x == y && PyData.eqvAll (r.map PyData.str) (t.map PyData.str)) = _
    rw [eqv_strs r t, Bool.eq_iff_iff]
    simp
theorem depth_strs : ∀ (rs : List Str), PyData.depthAll (rs.map PyData.str) = 0
  | [] => rfl
  | x :: r => by
    show max 0 (PyData.depthAll (r.map PyData.str)) = 0
    rw [depth_strs r]
    rfl
end KA

set_option Elab.async false
set_option linter.all false
set_option maxRecDepth 100000
set_option maxHeartbeats 4000000
namespace KA
open PySem PySem.Spec PyProof.Rows L2 L2.Dx
/-! ### the reading of a run -/
theorem sends_ok {nodes : List Str} {es : List Ev} : ∀ {i : Nat}, OkTo nodes es i → ∀ {x : Str} {j : Nat}, j ∈ (Rs.upto nodes es i).sends x → x ∈ nodes ∧ j < i ∧ ∃ rs, es[j]? = some (.snd x rs) ∧ recvB nodes x rs = true
  | 0, _, _, _, h => nomatch h
  | i + 1, ok, x, j, h => by
    have ih : ∀ {x : Str} {j : Nat}, j ∈ (Rs.upto nodes es i).sends x → x ∈ nodes ∧ j < i ∧ ∃ rs, es[j]? = some (.snd x rs) ∧ recvB nodes x rs = true := sends_ok (i := i) fun k hk => ok k (Nat.lt_succ_of_lt hk)
    have up : ∀ {x : Str} {j : Nat}, j ∈ (Rs.upto nodes es i).sends x → x ∈ nodes ∧ j < i + 1 ∧ ∃ rs, es[j]? = some (.snd x rs) ∧ recvB nodes x rs = true := fun h => ⟨(ih h).1, Nat.lt_succ_of_lt (ih h).2.1, (ih h).2.2⟩
    cases he : es[i]? with
    | none =>
      have e : Rs.upto nodes es (i + 1) = Rs.upto nodes es i := by
        show (match es[i]? with | some e => (Rs.upto nodes es i).next nodes i e | none => Rs.upto nodes es i) = _
        rw [he]
      rw [e] at h
      exact up h
    | some e =>
      rw [upto_succ he] at h
      cases e with
      | opn y s n => exact up h
      | snd y rs =>
        have h : j ∈ (if x = y then (Rs.upto nodes es i).sends y ++ [i] else (Rs.upto nodes es i).sends x) := h
        by_cases e : x = y
        · subst e
          rw [if_pos rfl] at h
          rcases List.mem_append.mp h with h | h
          · exact up h
          · cases List.mem_singleton.mp h
            have := ok i (Nat.lt_succ_self i) _ he
            exact ⟨this.1, Nat.lt_succ_self _, rs, he, this.2⟩
        · rw [if_neg e] at h
          exact up h
theorem sentAt_mem {r : Rs} {nodes : List Str} {s : Str} {n : Int} {j : Nat} (h : sentAt r nodes s n = some j) : s ∈ nodes ∧ 0 < n ∧ (r.sends s)[(n - 1).toNat]? = some j ∧ j ∈ r.sends s := by
  unfold sentAt at h
  by_cases c : s ∈ nodes ∧ 0 < n
  · rw [if_pos c] at h
    exact ⟨c.1, c.2, h, List.mem_of_getElem? h⟩
  · rw [if_neg c] at h
    cases h
theorem recvB_mem {nodes : List Str} {x r : Str} {rs : List Str} (h : recvB nodes x rs = true) (hr : r ∈ rs) : r ∈ nodes ∧ r ≠ x := by
  unfold recvB at h
  rw [Bool.and_eq_true] at h
  exact ⟨(recvGo_mem h.2 r hr).1, (recvGo_mem h.2 r hr).2.1⟩
theorem recvAt_snd {es : List Ev} {j : Nat} {x : Str} {rs : List Str} (h : es[j]? = some (.snd x rs)) : recvAt es j = rs := by
  unfold recvAt
  rw [h]
structure Fix (H0 : Hp) (nodes : List Str) (d1 d2 : Addr) (f g : Str → Addr) : Prop where
  n1 : H0 d1 = none
  n2 : H0 d2 = none
  nf : ∀ x ∈ nodes, H0 (f x) = none
  ng : ∀ x ∈ nodes, H0 (g x) = none
  fi : ∀ x ∈ nodes, ∀ y ∈ nodes, f x = f y → x = y
  gi : ∀ x ∈ nodes, ∀ y ∈ nodes, g x = g y → x = y
  g1 : ∀ x ∈ nodes, g x ≠ d1
  g2 : ∀ x ∈ nodes, g x ≠ d2
structure Inv1 (H0 H : Hp) (nodes : List Str) (es : List Ev) (d1 d2 : Addr) (f g : Str → Addr) (i : Nat) : Prop where
  ok : OkTo nodes es i
  sm : Same H0 H
  s : SendsAt H d1 nodes f (Rs.upto nodes es i).sends
  o : OpensAt H d2 nodes g (Rs.upto nodes es i).opens
theorem OkTo.succ {nodes : List Str} {es : List Ev} {i : Nat} {e : Ev} (h : OkTo nodes es i) (he : es[i]? = some e) (ok : evOk nodes es (Rs.upto nodes es i) e) : OkTo nodes es (i + 1) := fun j hj e' he' => by
  by_cases c : j < i
  · exact h j c e' he'
  · have : j = i := by omega
    subst this
    rw [he] at he'
    cases he'
    exact ok
section
variable {H0 H : Hp} {nodes : List Str} {es : List Ev} {d1 d2 : Addr} {f g : Str → Addr} {i : Nat}
theorem Inv1.new {T : Addr} {o : HO} (I : Inv1 H0 H nodes es d1 d2 f g i) (h : H T = none) : Inv1 H0 (upd H T o) nodes es d1 d2 f g i :=
  ⟨I.ok, I.sm.trans (same_new h), I.s.same (same_new h), I.o.same (same_new h)⟩
theorem Inv1.send {x : Str} {rs : List Str} (F : Fix H0 nodes d1 d2 f g) (I : Inv1 H0 H nodes es d1 d2 f g i) (he : es[i]? = some (.snd x rs)) (hx : x ∈ nodes) (hr : recvB nodes x rs = true) :
    Inv1 H0 (upd H (f x) (.lst (ixs ((Rs.upto nodes es i).sends x) ++ [.int (i : Nat)]))) nodes es d1 d2 f g (i + 1) := by
  have hf := I.s.own x hx
  have n1 : d1 ≠ f x := ne_of I.s.at' hf (by intro z; cases z)
  have n2 : d2 ≠ f x := ne_of I.o.at' hf (by intro z; cases z)
  refine ⟨I.ok.succ he ⟨hx, hr⟩, same_put I.sm (F.nf x hx), ⟨(upd_ne n1).trans I.s.at', fun y hy => ?_⟩, ⟨(upd_ne n2).trans I.o.at', fun y hy => ?_⟩⟩
  · rw [upto_succ he]
    show _ = some (HO.lst (ixs (if y = x then (Rs.upto nodes es i).sends x ++ [i] else (Rs.upto nodes es i).sends y)))
    by_cases e : y = x
    · subst e
      rw [if_pos rfl, upd_same]
      simp [ixs]
    · rw [if_neg e, upd_ne fun z => e (F.fi y hy x hx z)]
      exact I.s.own y hy
  · rw [upto_succ he]
    show _ = some (HO.dK (ops ((Rs.upto nodes es i).opens y)))
    rw [upd_ne (ne_of (I.o.own y hy) hf (by intro z; cases z))]
    exact I.o.own y hy
theorem Inv1.opn {x s : Str} {n : Int} {j : Nat} (F : Fix H0 nodes d1 d2 f g) (I : Inv1 H0 H nodes es d1 d2 f g i) (he : es[i]? = some (.opn x s n)) (hj : sentAt (Rs.upto nodes es i) nodes s n = some j) (hx : x ∈ nodes) (hr : x ∈ recvAt es j)
    (hn : ((Rs.upto nodes es i).opens x).all (fun p => decide (p.1 ≠ j)) = true) :
    Inv1 H0 (upd H (g x) (.dK (putK (ops ((Rs.upto nodes es i).opens x)) (Sum.inl ((j : Nat) : Int)) (.int (i : Nat))))) nodes es d1 d2 f g (i + 1) := by
  have hg := I.o.own x hx
  refine ⟨I.ok.succ he ⟨j, hj, hr, hn⟩, same_put I.sm (F.ng x hx), ⟨(upd_ne (Ne.symm (F.g1 x hx))).trans I.s.at', fun y hy => ?_⟩, ⟨(upd_ne (Ne.symm (F.g2 x hx))).trans I.o.at', fun y hy => ?_⟩⟩
  · rw [upto_succ he]
    show _ = some (HO.lst (ixs ((Rs.upto nodes es i).sends y)))
    rw [upd_ne (ne_of (I.s.own y hy) hg (by intro z; cases z))]
    exact I.s.own y hy
  · rw [upto_succ he]
    show _ = some (HO.dK (ops (if y = x then (Rs.upto nodes es i).opens x ++ [((sentAt (Rs.upto nodes es i) nodes s n).getD 0, i)] else (Rs.upto nodes es i).opens y)))
    rw [hj]
    by_cases e : y = x
    · subst e
      rw [if_pos rfl, upd_same, putK_new]
      · simp [ops]
      · have := valV_ops (j := j) (l := (Rs.upto nodes es i).opens y)
        rw [hn] at this
        simpa using this
    · rw [if_neg e, upd_ne fun z => e (F.gi y hy x hx z)]
      exact I.o.own y hy
theorem not_ok {e : Ev} (hi : i < es.length) (he : es[i]? = some e) (h : ¬ evOk nodes es (Rs.upto nodes es i) e) : ¬ RunOk nodes es := fun ok => h (ok i hi e he)
end
theorem atI_last {xs : List V} {v : V} (h0 : 0 < xs.length) (h : xs[xs.length - 1]? = some v) : atI xs (-1) = some v := by
  have e : ixN xs.length (-1) = some (xs.length - 1) := by
    unfold ixN
    rw [if_neg (by decide), if_pos (by omega)]
    congr 1
    omega
  unfold atI
  rw [e]
  exact h
theorem len_ixs {l : List Nat} : (ixs l).length = l.length := List.length_map ..
theorem get_ixs {l : List Nat} {k j : Nat} (h : l[k]? = some j) : (ixs l)[k]? = some (.int (j : Nat)) := by
  rw [List.getElem?_map, h]
  rfl
theorem sends_len {nodes : List Str} {es : List Ev} {x : Str} : ∀ {i : Nat}, ((Rs.upto nodes es i).sends x).length ≤ i
  | 0 => Nat.le_refl _
  | i + 1 => by
    have ih := @sends_len nodes es x i
    cases he : es[i]? with
    | none =>
      have e : Rs.upto nodes es (i + 1) = Rs.upto nodes es i := by
        show (match es[i]? with | some e => (Rs.upto nodes es i).next nodes i e | none => Rs.upto nodes es i) = _
        rw [he]
      rw [e]
      omega
    | some e =>
      rw [upto_succ he]
      cases e with
      | opn y s n => exact Nat.le_succ_of_le ih
      | snd y rs =>
        show (if x = y then (Rs.upto nodes es i).sends y ++ [i] else (Rs.upto nodes es i).sends x).length ≤ _
        by_cases e : x = y
        · subst e
          rw [if_pos rfl, List.length_append]
          simpa using ih
        · rw [if_neg e]
          omega
theorem opens_len {nodes : List Str} {es : List Ev} {x : Str} : ∀ {i : Nat}, ((Rs.upto nodes es i).opens x).length ≤ i
  | 0 => Nat.le_refl _
  | i + 1 => by
    have ih := @opens_len nodes es x i
    cases he : es[i]? with
    | none =>
      have e : Rs.upto nodes es (i + 1) = Rs.upto nodes es i := by
        show (match es[i]? with | some e => (Rs.upto nodes es i).next nodes i e | none => Rs.upto nodes es i) = _
        rw [he]
      rw [e]
      omega
    | some e =>
      rw [upto_succ he]
      cases e with
      | snd y rs => exact Nat.le_succ_of_le ih
      | opn y s n =>
        show (if x = y then (Rs.upto nodes es i).opens y ++ [((sentAt (Rs.upto nodes es i) nodes s n).getD 0, i)] else (Rs.upto nodes es i).opens x).length ≤ _
        by_cases e : x = y
        · subst e
          rw [if_pos rfl, List.length_append]
          simpa using ih
        · rw [if_neg e]
          omega
end KA

set_option Elab.async false
set_option linter.all false
set_option maxRecDepth 100000
set_option maxHeartbeats 4000000
namespace L2.Dx
open PySem PySem.Spec PyProof.Rows L2
/-- two clauses: the outer one over a list that stays; R is what the inner loop is asked, given what it must reach -/
theorem dc2_outer {K : PySem.W.Frag} {a : Addr} {xs : List V} {g : TG} {o : HO} {vs : List Nat} {σ : St} {H1 : Hp} {D : Addr} {Qd : Hp → Prop} {R : St → Hp → (Hp → Prop) → Prop} (Pv : Nat → Hp → Prop) (h0 : Pv 0 (upd H1 D o)) (hl : ∀ i H, i ≤ xs.length → Pv i H → SqL K H a xs)
    (hs : ∀ i x H, xs[i]? = some x → Pv i H → g x (wipe σ vs) H fun σ2 H2 => wipe σ2 vs = wipe σ vs ∧ R σ2 H2 (Pv (i + 1))) (hd : ∀ H, Pv xs.length H → Qd H) :
    ∃ W : Nat → Nat → Hp → Prop, (∃ m, W 0 m (upd H1 D o)) ∧ ∀ i m H, W i m H →
      ((Itl K a).stop i H ∧ Qd H) ∨ ((Itl K a).go i H ∧ ∃ Nx : Hp → Prop, (∀ H', Nx H' → ∃ m', m' < m ∧ W (i + 1) m' H') ∧ ∀ x H', (Itl K a).yld i H x H' → g x (wipe σ vs) H' fun σ2 H2 => wipe σ2 vs = wipe σ vs ∧ R σ2 H2 Nx) := by
  refine ⟨fun i m H => m = xs.length - i ∧ i ≤ xs.length ∧ Pv i H, ⟨_, rfl, Nat.zero_le _, h0⟩, fun i m H ⟨em, hi, p⟩ => ?_⟩
  subst em
  rcases Nat.lt_or_ge i xs.length with lt | ge
  · refine .inr ⟨⟨xs, xs[i], hl i H hi p, List.getElem?_eq_getElem lt⟩, Pv (i + 1), fun H' p' => ⟨_, by omega, rfl, lt, p'⟩, fun x H' ⟨e, y⟩ => ?_⟩
    subst e
    exact hs i x _ (y xs (hl i _ hi p)) p
  · have e : xs.length = i := Nat.le_antisymm ge hi
    subst e
    exact .inl ⟨⟨xs, hl _ H hi p, Nat.le_refl _⟩, hd H p⟩
/-- the inner one over enumerate(list, start=k) -/
theorem dc2_inner {K : PySem.W.Frag} {a : Addr} {k0 : Int} {xs : List V} {g1 : TG} {vs1 : List Nat} {σ : St} {H1 : Hp} {Nx : Hp → Prop} {R : St → Hp → (Hp → Prop) → Prop} (P1 : Nat → Hp → Prop) (h0 : P1 0 H1) (hl : ∀ j H, j ≤ xs.length → P1 j H → SqL K H a xs)
    (hs : ∀ j x H T, xs[j]? = some x → P1 j H → H T = none → g1 (.ref T) (wipe σ vs1) (upd H T (.tup [.int (k0 + (j : Nat)), x])) fun σ3 H5 => wipe σ3 vs1 = wipe σ vs1 ∧ R σ3 H5 (P1 (j + 1))) (hd : ∀ H, P1 xs.length H → Nx H) :
    ∃ W1 : Nat → Nat → Hp → Prop, (∃ m, W1 0 m H1) ∧ ∀ j k H, W1 j k H →
      ((IteS K a k0).stop j H ∧ Nx H) ∨ ((IteS K a k0).go j H ∧ ∃ Nx1 : Hp → Prop, (∀ H', Nx1 H' → ∃ k', k' < k ∧ W1 (j + 1) k' H') ∧ ∀ x H', (IteS K a k0).yld j H x H' → g1 x (wipe σ vs1) H' fun σ3 H5 => wipe σ3 vs1 = wipe σ vs1 ∧ R σ3 H5 Nx1) := by
  refine ⟨fun i m H => m = xs.length - i ∧ i ≤ xs.length ∧ P1 i H, ⟨_, rfl, Nat.zero_le _, h0⟩, fun i m H ⟨em, hi, p⟩ => ?_⟩
  subst em
  rcases Nat.lt_or_ge i xs.length with lt | ge
  · refine .inr ⟨⟨xs, xs[i], hl i H hi p, List.getElem?_eq_getElem lt⟩, P1 (i + 1), fun H' p' => ⟨_, by omega, rfl, lt, p'⟩, fun v H' ⟨T, x, ev, nT, eH, y⟩ => ?_⟩
    subst ev eH
    exact hs i x _ T (y xs (hl i _ hi p)) p nT
  · have e : xs.length = i := Nat.le_antisymm ge hi
    subst e
    exact .inl ⟨⟨xs, hl _ H hi p, rfl⟩, hd H p⟩
end L2.Dx
namespace KA
open PySem PySem.Spec PyProof.Rows L2 L2.Dx
theorem cut_all (xs : List V) : cutV xs none none = xs := by
  unfold cutV
  rw [HT.sIx_none, HT.sIx_none]
  simp
/-! ### the messages of a run -/
def numFrom : Nat → List Nat → List (Nat × Nat)
  | _, [] => []
  | k, j :: t => (k, j) :: numFrom (k + 1) t
theorem numFrom_snoc (j : Nat) : ∀ (l : List Nat) (k : Nat), numFrom k (l ++ [j]) = numFrom k l ++ [(k + l.length, j)]
  | [], k => rfl
  | a :: t, k => by
    show (k, a) :: numFrom (k + 1) (t ++ [j]) = _
    rw [numFrom_snoc j t (k + 1), show k + (a :: t).length = k + 1 + t.length by rw [List.length_cons]; omega]
    rfl
theorem numFrom_mem {k a b : Nat} : ∀ {l : List Nat} {k : Nat}, (a, b) ∈ numFrom k l → k ≤ a ∧ a < k + l.length ∧ l[a - k]? = some b
  | [], _, h => nomatch h
  | j :: t, k, h => by
    rcases List.mem_cons.mp h with e | h
    · cases e
      refine ⟨Nat.le_refl _, by rw [List.length_cons]; omega, ?_⟩
      rw [Nat.sub_self]
      rfl
    · obtain ⟨h1, h2, h3⟩ := numFrom_mem (k := k) h
      refine ⟨by omega, by rw [List.length_cons]; omega, ?_⟩
      rw [show a - k = a - (k + 1) + 1 by omega, List.getElem?_cons_succ]
      exact h3
theorem numFrom_len : ∀ (l : List Nat) (k : Nat), (numFrom k l).length = l.length
  | [], _ => rfl
  | j :: t, k => by
    show (numFrom (k + 1) t).length + 1 = _
    rw [numFrom_len t]
    rfl
/-- (sender, number, place of the send) -/
abbrev Msg := Str × Nat × Nat
def msgsOf (x : Str) (l : List Nat) : List Msg := (numFrom 1 l).map fun p => (x, p.1, p.2)
def allMsgs (nodes : List Str) (S : Str → List Nat) : List Msg := nodes.flatMap fun x => msgsOf x (S x)
abbrev keyOf (t : Msg) : List Key := [Sum.inr t.1, Sum.inl ((t.2.1 : Nat) : Int)]
theorem valT_out {h : Msg → V} {k : List Key} : ∀ {L : List Msg}, (∀ t ∈ L, keyOf t ≠ k) → valV (L.map fun t => (keyOf t, h t)) k = none
  | [], _ => rfl
  | t :: r, hn => by
    rw [List.map_cons, valV_neg (hn t List.mem_cons_self)]
    exact valT_out fun u hu => hn u (List.mem_cons_of_mem _ hu)
theorem msgs_snoc {x : Str} {l : List Nat} {k j : Nat} (h : l[k]? = some j) : msgsOf x (l.take (k + 1)) = msgsOf x (l.take k) ++ [(x, k + 1, j)] := by
  unfold msgsOf
  rw [take_snoc h, numFrom_snoc, List.map_append]
  have : (l.take k).length = k := by
    rw [List.length_take]
    have := (List.getElem?_eq_some_iff.mp h).1
    omega
  rw [this, Nat.add_comm 1 k]
  rfl
theorem all_snoc {nodes : List Str} {S : Str → List Nat} {i : Nat} {x : Str} (h : nodes[i]? = some x) : allMsgs (nodes.take (i + 1)) S = allMsgs (nodes.take i) S ++ msgsOf x (S x) := by
  unfold allMsgs
  rw [take_snoc h, List.flatMap_append]
  simp
theorem msgsOf_mem {x : Str} {l : List Nat} {t : Msg} (h : t ∈ msgsOf x l) : t.1 = x ∧ 1 ≤ t.2.1 ∧ t.2.1 ≤ l.length ∧ l[t.2.1 - 1]? = some t.2.2 := by
  unfold msgsOf at h
  obtain ⟨⟨a, b⟩, hp, rfl⟩ := List.mem_map.mp h
  obtain ⟨h1, h2, h3⟩ := numFrom_mem (k := 0) hp
  exact ⟨rfl, h1, by show a ≤ _; omega, h3⟩
theorem all_mem {nodes : List Str} {S : Str → List Nat} {t : Msg} (h : t ∈ allMsgs nodes S) : t.1 ∈ nodes ∧ 1 ≤ t.2.1 ∧ t.2.1 ≤ (S t.1).length ∧ (S t.1)[t.2.1 - 1]? = some t.2.2 := by
  unfold allMsgs at h
  obtain ⟨x, hx, ht⟩ := List.mem_flatMap.mp h
  obtain ⟨rfl, h2⟩ := msgsOf_mem ht
  exact ⟨hx, h2⟩
/-- a dict from the messages L to lists of their receivers -/
structure MsgsAt (H0 H : Hp) (D : Addr) (es : List Ev) (L : List Msg) (h : Msg → Addr) : Prop where
  at' : H D = some (.dT (L.map fun t => (keyOf t, V.ref (h t))))
  own : ∀ t ∈ L, H (h t) = some (.lst ((recvAt es t.2.2).map V.str)) ∧ H0 (h t) = none ∧ h t ≠ D
  inj : ∀ t ∈ L, ∀ u ∈ L, h t = h u → t = u
theorem MsgsAt.same {H0 H H' : Hp} {D : Addr} {es : List Ev} {L : List Msg} {h : Msg → Addr} (M : MsgsAt H0 H D es L h) (s : Same H H') : MsgsAt H0 H' D es L h := ⟨s _ _ M.at', fun t ht => ⟨s _ _ (M.own t ht).1, (M.own t ht).2⟩, M.inj⟩
theorem MsgsAt.put {H0 H : Hp} {D p : Addr} {es : List Ev} {L : List Msg} {h : Msg → Addr} {u : Msg} (M : MsgsAt H0 H D es L h) (hu : ∀ t ∈ L, keyOf t ≠ keyOf u) (hp : H p = some (.lst ((recvAt es u.2.2).map V.str))) (h0 : H0 p = none) (hne : ∀ t ∈ L, h t ≠ p) :
    MsgsAt H0 (upd H D (.dT (putK (L.map fun t => (keyOf t, V.ref (h t))) (keyOf u) (.ref p)))) D es (L ++ [u]) (fun t => if t = u then p else h t) := by
  have nin : u ∉ L := fun z => hu u z rfl
  have pD : p ≠ D := ne_of hp M.at' (by intro z; cases z)
  refine ⟨?_, fun t ht => ?_, fun t ht v hv => ?_⟩
  · rw [upd_same, putK_new _ (valT_out hu), List.map_append]
    congr 2
    congr 1
    · refine List.map_congr_left fun t ht => ?_
      rw [if_neg fun (z : t = u) => nin (by rw [← z]; exact ht)]
    · simp
  · by_cases e : t = u
    · rw [if_pos e, upd_ne pD, e]
      exact ⟨hp, h0, pD⟩
    · have k := M.own t ((List.mem_append.mp ht).resolve_right fun z => e (List.mem_singleton.mp z))
      rw [if_neg e, upd_ne k.2.2]
      exact k
  · by_cases e : t = u <;> by_cases e' : v = u
    · intro _; rw [e, e']
    · rw [if_pos e, if_neg e']
      exact fun z => absurd z.symm (hne v ((List.mem_append.mp hv).resolve_right fun z => e' (List.mem_singleton.mp z)))
    · rw [if_neg e, if_pos e']
      exact fun z => absurd z (hne t ((List.mem_append.mp ht).resolve_right fun z => e (List.mem_singleton.mp z)))
    · rw [if_neg e, if_neg e']
      exact M.inj t ((List.mem_append.mp ht).resolve_right fun z => e (List.mem_singleton.mp z)) v ((List.mem_append.mp hv).resolve_right fun z => e' (List.mem_singleton.mp z))
end KA

set_option Elab.async false
set_option linter.all false
set_option maxRecDepth 100000
set_option maxHeartbeats 4000000
namespace KA
open PySem PySem.Spec PyProof.Rows L2 L2.Dx
def TextsOk (es : List Ev) : Prop := ∀ (i : Nat) (x : Str) (rs : List Str), es[i]? = some (.snd x rs) → PyData.canLayAll0 (rs.map PyData.str) = true
/-! ### runs that grow -/
abbrev rsOf (nodes : List Str) (es : List Ev) : Rs := Rs.upto nodes es es.length
theorem upto_app {nodes : List Str} {es t : List Ev} : ∀ {i : Nat}, i ≤ es.length → Rs.upto nodes (es ++ t) i = Rs.upto nodes es i
  | 0, _ => rfl
  | i + 1, h => by
    have e : (es ++ t)[i]? = es[i]? := List.getElem?_append_left (by omega)
    show (match (es ++ t)[i]? with | some e => (Rs.upto nodes (es ++ t) i).next nodes i e | none => Rs.upto nodes (es ++ t) i) = (match es[i]? with | some e => (Rs.upto nodes es i).next nodes i e | none => Rs.upto nodes es i)
    rw [e, upto_app (by omega)]
theorem recvAt_app {es t : List Ev} {j : Nat} (h : j < es.length) : recvAt (es ++ t) j = recvAt es j := by
  unfold recvAt
  rw [List.getElem?_append_left h]
theorem rsOf_snoc {nodes : List Str} {es : List Ev} {e : Ev} : rsOf nodes (es ++ [e]) = (rsOf nodes es).next nodes es.length e := by
  unfold rsOf
  rw [show (es ++ [e]).length = es.length + 1 by simp, upto_succ (i := es.length) (e := e) (by simp), upto_app (Nat.le_refl _)]
theorem sentAt_lt {nodes : List Str} {es : List Ev} {s : Str} {n : Int} {j : Nat} (ok : RunOk nodes es) (h : sentAt (rsOf nodes es) nodes s n = some j) : j < es.length := (sends_ok ok (sentAt_mem h).2.2.2).2.1
theorem evOk_app {nodes : List Str} {es t : List Ev} {i : Nat} {e : Ev} (ok : OkTo nodes es i) (hi : i ≤ es.length) : evOk nodes (es ++ t) (Rs.upto nodes (es ++ t) i) e ↔ evOk nodes es (Rs.upto nodes es i) e := by
  rw [upto_app hi]
  cases e with
  | snd x rs => exact Iff.rfl
  | opn x s n =>
    constructor
    · rintro ⟨j, h1, h2, h3⟩
      have lt := (sends_ok ok (sentAt_mem h1).2.2.2).2.1
      exact ⟨j, h1, by rw [← recvAt_app (t := t) (by omega)]; exact h2, h3⟩
    · rintro ⟨j, h1, h2, h3⟩
      have lt := (sends_ok ok (sentAt_mem h1).2.2.2).2.1
      exact ⟨j, h1, by rw [recvAt_app (t := t) (by omega)]; exact h2, h3⟩
theorem runOk_app {nodes : List Str} {es t : List Ev} (ok : RunOk nodes es) : OkTo nodes (es ++ t) es.length := fun i hi e he => by
  rw [List.getElem?_append_left hi] at he
  exact (evOk_app (fun j hj => ok j (by omega)) (by omega)).mpr (ok i hi e he)
theorem runOk_snoc {nodes : List Str} {es : List Ev} {e : Ev} (ok : RunOk nodes es) (h : evOk nodes es (rsOf nodes es) e) : RunOk nodes (es ++ [e]) := by
  unfold RunOk
  rw [show (es ++ [e]).length = es.length + 1 by simp]
  exact (runOk_app ok).succ (e := e) (by simp) ((evOk_app ok (Nat.le_refl _)).mpr h)
theorem not_runOk_snoc {nodes : List Str} {es : List Ev} {e : Ev} (ok : RunOk nodes es) (h : ¬ evOk nodes es (rsOf nodes es) e) : ¬ RunOk nodes (es ++ [e]) := fun ok' =>
  h ((evOk_app ok (Nat.le_refl _)).mp (ok' es.length (by simp) e (by simp)))
/-- who opens twice -/
theorem opened_in {nodes : List Str} {es : List Ev} : ∀ {k : Nat}, OkTo nodes es k → ∀ {i : Nat} {x s : Str} {n : Int}, i < k → es[i]? = some (.opn x s n) → ∃ j, sentAt (Rs.upto nodes es k) nodes s n = some j ∧ x ∈ recvAt es j ∧ (j, i) ∈ (Rs.upto nodes es k).opens x
  | 0, _, i, _, _, _, hi, _ => absurd hi (Nat.not_lt_zero _)
  | k + 1, ok, i, x, s, n, hi, he => by
    have ih := @opened_in nodes es k (fun j hj => ok j (by omega))
    cases hk : es[k]? with
    | none =>
      have h1 := (List.getElem?_eq_some_iff.mp he).1
      have h2 := List.getElem?_eq_none_iff.mp hk
      by_cases c : i = k
      · omega
      · have e : Rs.upto nodes es (k + 1) = Rs.upto nodes es k := by
          show (match es[k]? with | some e => (Rs.upto nodes es k).next nodes k e | none => Rs.upto nodes es k) = _
          rw [hk]
        rw [e]
        exact ih (by omega) he
    | some e =>
      rw [upto_succ hk]
      have keep : ∀ {j : Nat}, sentAt (Rs.upto nodes es k) nodes s n = some j → sentAt ((Rs.upto nodes es k).next nodes k e) nodes s n = some j := fun {j} h => by
        unfold sentAt at h ⊢
        by_cases c : s ∈ nodes ∧ 0 < n
        · rw [if_pos c] at h ⊢
          cases e with
          | opn y t m => exact h
          | snd y rs =>
            show (if s = y then (Rs.upto nodes es k).sends y ++ [k] else (Rs.upto nodes es k).sends s)[(n - 1).toNat]? = some j
            by_cases c2 : s = y
            · subst c2
              rw [if_pos rfl, List.getElem?_append_left (List.getElem?_eq_some_iff.mp h).1]
              exact h
            · rw [if_neg c2]
              exact h
        · rw [if_neg c] at h
          cases h
      by_cases c : i = k
      · subst c
        rw [he] at hk
        cases hk
        obtain ⟨j, h1, h2, h3⟩ := ok i (by omega) _ he
        refine ⟨j, keep h1, h2, ?_⟩
        show (j, i) ∈ (if x = x then (Rs.upto nodes es i).opens x ++ [((sentAt (Rs.upto nodes es i) nodes s n).getD 0, i)] else (Rs.upto nodes es i).opens x)
        rw [if_pos rfl, h1]
        simp
      · obtain ⟨j, h1, h2, h3⟩ := ih (by omega) he
        refine ⟨j, keep h1, h2, ?_⟩
        cases e with
        | snd y rs => exact h3
        | opn y t m =>
          show (j, i) ∈ (if x = y then (Rs.upto nodes es k).opens y ++ [((sentAt (Rs.upto nodes es k) nodes t m).getD 0, k)] else (Rs.upto nodes es k).opens x)
          by_cases c2 : x = y
          · subst c2
            rw [if_pos rfl]
            exact List.mem_append_left _ h3
          · rw [if_neg c2]
            exact h3
theorem not_again {nodes : List Str} {es : List Ev} {i : Nat} {x s : Str} {n : Int} (ok : RunOk nodes es) (he : es[i]? = some (.opn x s n)) : ¬ RunOk nodes (es ++ [.opn x s n]) := by
  refine not_runOk_snoc ok ?_
  rintro ⟨j, h1, h2, h3⟩
  obtain ⟨j', k1, k2, k3⟩ := opened_in ok (List.getElem?_eq_some_iff.mp he).1 he
  rw [h1] at k1
  cases k1
  rw [List.all_eq_true] at h3
  have := h3 _ k3
  simp at this
/-! ### opens that wait -/
structure Pend where
  x : Str
  s : Str
  n : Int
  j : Nat
abbrev Pend.ev (p : Pend) : Ev := .opn p.x p.s p.n
structure MInv (nodes : List Str) (es : List Ev) (pend : List Pend) : Prop where
  ok : RunOk nodes es
  nd : (pend.map fun p => (p.x, p.j)).Nodup
  good : ∀ p ∈ pend, sentAt (rsOf nodes es) nodes p.s p.n = some p.j ∧ p.x ∈ recvAt es p.j ∧ ((rsOf nodes es).opens p.x).all (fun q => decide (q.1 ≠ p.j)) = true
theorem sentAt_snoc {nodes : List Str} {es : List Ev} {e : Ev} {s : Str} {n : Int} {j : Nat} (h : sentAt (rsOf nodes es) nodes s n = some j) : sentAt (rsOf nodes (es ++ [e])) nodes s n = some j := by
  rw [rsOf_snoc]
  unfold sentAt at h ⊢
  by_cases c : s ∈ nodes ∧ 0 < n
  · rw [if_pos c] at h ⊢
    cases e with
    | opn y t m => exact h
    | snd y rs =>
      show (if s = y then (rsOf nodes es).sends y ++ [es.length] else (rsOf nodes es).sends s)[(n - 1).toNat]? = some j
      by_cases c2 : s = y
      · subst c2
        rw [if_pos rfl, List.getElem?_append_left (List.getElem?_eq_some_iff.mp h).1]
        exact h
      · rw [if_neg c2]
        exact h
  · rw [if_neg c] at h
    cases h
theorem opens_lt {nodes : List Str} {es : List Ev} {x : Str} : ∀ {k : Nat}, OkTo nodes es k → ∀ p ∈ (Rs.upto nodes es k).opens x, p.1 < k
  | 0, _, p, h => nomatch h
  | k + 1, ok, p, h => by
    have ih := @opens_lt nodes es x k fun j hj => ok j (by omega)
    cases hk : es[k]? with
    | none =>
      have e : Rs.upto nodes es (k + 1) = Rs.upto nodes es k := by
        show (match es[k]? with | some e => (Rs.upto nodes es k).next nodes k e | none => Rs.upto nodes es k) = _
        rw [hk]
      rw [e] at h
      have := ih p h
      omega
    | some e =>
      rw [upto_succ hk] at h
      cases e with
      | snd y rs =>
        have := ih p h
        omega
      | opn y t m =>
        have h : p ∈ (if x = y then (Rs.upto nodes es k).opens y ++ [((sentAt (Rs.upto nodes es k) nodes t m).getD 0, k)] else (Rs.upto nodes es k).opens x) := h
        by_cases c2 : x = y
        · subst c2
          rw [if_pos rfl] at h
          rcases List.mem_append.mp h with h | h
          · have := ih p h
            omega
          · rw [List.mem_singleton.mp h]
            obtain ⟨j, h1, _⟩ := ok k (by omega) _ hk
            rw [h1]
            have := (sends_ok (fun j hj => ok j (by omega)) (sentAt_mem h1).2.2.2).2.1
            show j < k + 1
            omega
        · rw [if_neg c2] at h
          have := ih p h
          omega
def newPend (nodes : List Str) (es : List Ev) (x : Str) (rs : List Str) : List Pend := rs.map fun r => ⟨r, x, (((rsOf nodes es).sends x).length + 1 : Nat), es.length⟩
theorem MInv.send {nodes : List Str} {es : List Ev} {pend : List Pend} {x : Str} {rs : List Str} (M : MInv nodes es pend) (hx : x ∈ nodes) (hr : recvB nodes x rs = true) (hnd : rs.Nodup) : MInv nodes (es ++ [.snd x rs]) (pend ++ newPend nodes es x rs) := by
  refine ⟨runOk_snoc M.ok ⟨hx, hr⟩, ?_, fun p hp => ?_⟩
  · rw [List.map_append, List.nodup_append]
    refine ⟨M.nd, ?_, ?_⟩
    · unfold newPend
      rw [List.map_map]
      refine List.Pairwise.map (S := fun a b => a ≠ b) _ (fun a b hab h => hab ?_) hnd
      exact (Prod.mk.inj h).1
    · intro a ha b hb e
      obtain ⟨p, hp, rfl⟩ := List.mem_map.mp ha
      obtain ⟨q, hq, rfl⟩ := List.mem_map.mp hb
      obtain ⟨r, _, rfl⟩ := List.mem_map.mp hq
      have := sentAt_lt M.ok (M.good p hp).1
      have e2 : p.j = es.length := (Prod.mk.inj e).2
      omega
  · rcases List.mem_append.mp hp with hp | hp
    · obtain ⟨h1, h2, h3⟩ := M.good p hp
      refine ⟨sentAt_snoc h1, by rw [recvAt_app (sentAt_lt M.ok h1)]; exact h2, ?_⟩
      rw [rsOf_snoc]
      exact h3
    · obtain ⟨r, hr', rfl⟩ := List.mem_map.mp hp
      refine ⟨?_, ?_, ?_⟩
      · rw [rsOf_snoc]
        unfold sentAt
        rw [if_pos ⟨hx, by show (0 : Int) < ((((rsOf nodes es).sends x).length + 1 : Nat) : Int); omega⟩]
        show (if x = x then (rsOf nodes es).sends x ++ [es.length] else (rsOf nodes es).sends x)[(((((rsOf nodes es).sends x).length + 1 : Nat) : Int) - 1).toNat]? = some es.length
        rw [if_pos rfl, show (((((rsOf nodes es).sends x).length + 1 : Nat) : Int) - 1).toNat = ((rsOf nodes es).sends x).length by omega]
        simp
      · show r ∈ recvAt (es ++ [.snd x rs]) es.length
        rw [recvAt_snd (x := x) (rs := rs) (by simp)]
        exact hr'
      · show ((rsOf nodes (es ++ [.snd x rs])).opens r).all (fun q => decide (q.1 ≠ es.length)) = true
        rw [rsOf_snoc]
        show ((rsOf nodes es).opens r).all (fun q => decide (q.1 ≠ es.length)) = true
        rw [List.all_eq_true]
        intro q hq
        have := opens_lt M.ok q hq
        simp
        omega
theorem MInv.open {nodes : List Str} {es : List Ev} {ps : List Pend} {p : Pend} (M : MInv nodes es (ps ++ [p])) : MInv nodes (es ++ [p.ev]) ps := by
  obtain ⟨h1, h2, h3⟩ := M.good p (by simp)
  have nd := M.nd
  rw [List.map_append, List.nodup_append] at nd
  refine ⟨runOk_snoc M.ok ⟨p.j, h1, h2, h3⟩, nd.1, fun q hq => ?_⟩
  obtain ⟨k1, k2, k3⟩ := M.good q (List.mem_append_left _ hq)
  refine ⟨sentAt_snoc k1, by rw [recvAt_app (sentAt_lt M.ok k1)]; exact k2, ?_⟩
  rw [rsOf_snoc]
  show (if q.x = p.x then (rsOf nodes es).opens p.x ++ [((sentAt (rsOf nodes es) nodes p.s p.n).getD 0, es.length)] else (rsOf nodes es).opens q.x).all (fun r => decide (r.1 ≠ q.j)) = true
  by_cases c : q.x = p.x
  · rw [if_pos c, h1, List.all_append, ← c, k3]
    have : p.j ≠ q.j := fun e => nd.2.2 (q.x, q.j) (List.mem_map.mpr ⟨q, hq, rfl⟩) (p.x, p.j) (by simp) (by rw [c, e])
    simp [this]
  · rw [if_neg c]
    exact k3
theorem MInv.rev {nodes : List Str} {es : List Ev} {ps : List Pend} (M : MInv nodes es ps) : MInv nodes es ps.reverse :=
  ⟨M.ok, by rw [List.map_reverse]; exact List.pairwise_reverse.mpr (M.nd.imp fun h e => h e.symm), fun p hp => M.good p (List.mem_reverse.mp hp)⟩
theorem recvB_sub {nodes rs : List Str} {x : Str} (hn : NodesOk nodes) (hs : rs.Sublist nodes) (h0 : rs ≠ []) (hx : ∀ r ∈ rs, r ≠ x) : recvB nodes x rs = true := by
  unfold recvB
  rw [recvGo_of (fun r hr => ⟨hs.subset hr, hx r hr, empty_lt (hn.nm r (hs.subset hr))⟩) (hn.asc.sublist hs)]
  cases rs with
  | nil => exact absurd rfl h0
  | cons _ _ => rfl
theorem name_strOk {z : Str} (h : NameOk z) : PyData.canLay0 (.str z) = true := by
  show z.cps.all (· < 0x110000) = true
  rw [← Array.all_toList, List.all_eq_true]
  intro c hc
  have := h.az c hc
  simp
  omega
theorem names_canLay : ∀ {rs : List Str}, (∀ r ∈ rs, NameOk r) → PyData.canLayAll0 (rs.map PyData.str) = true
  | [], _ => rfl
  | r :: t, h => by
    show (PyData.canLay0 (.str r) && PyData.canLayAll0 (t.map PyData.str)) = true
    rw [name_strOk (h r List.mem_cons_self), names_canLay fun y hy => h y (List.mem_cons_of_mem _ hy)]
    rfl
theorem texts_of {nodes : List Str} {es : List Ev} (hn : NodesOk nodes) (ok : RunOk nodes es) : TextsOk es := fun i x rs he =>
  names_canLay fun r hr => hn.nm r (recvB_mem (ok i (List.getElem?_eq_some_iff.mp he).1 _ he).2 hr).1
end KA

set_option Elab.async false
set_option linter.all false
set_option maxRecDepth 100000
set_option maxHeartbeats 16000000
namespace KA
open PySem PySem.Spec PyProof.Rows L2 L2.Dx
theorem shaped_strs {rs : List Str} (h : PyData.canLayAll0 (rs.map PyData.str) = true) : SeqAt.shaped (.list (rs.map PyData.str)) = true := by
  unfold SeqAt.shaped
  rw [show (PyData.list (rs.map PyData.str)).canLay0 = PyData.canLayAll0 (rs.map PyData.str) from rfl, h, show (PyData.list (rs.map PyData.str)).depth = PyData.depthAll (rs.map PyData.str) + 1 from rfl, depth_strs]
  rfl
section
variable {P : Program} {w : World} {K : PySem.W.Frag} {mg : Str → Option Value} {base : Heap}
def sp_scan_run (K : PySem.W.Frag) : Sp := fun vs H Q _ => ∃ (N R : Addr) (nodes : List Str) (as : List Addr) (es : List Ev), vs = [.ref N, .ref R] ∧ H N = some (.lst (nodes.map V.str)) ∧ NodesOk nodes ∧ RunAt H R as es ∧ es.length ≤ 1000 ∧ TextsOk es ∧
  (¬ RunOk nodes es → ∀ H', Same H H' → Q .non H') ∧
  (RunOk nodes es → ∀ (H' : Hp) (p d1 d2 : Addr) (f g : Str → Addr), Same H H' → H p = none → H' p = some (.tup [.ref d1, .ref d2]) → SendsAt H' d1 nodes f (Rs.upto nodes es es.length).sends → OpensAt H' d2 nodes g (Rs.upto nodes es es.length).opens → Q (.ref p) H')
theorem ok_scan_run (T : Txt K mg) : FnOk P w K mg base CX0 2 T.f_scan_run T.fd_scan_run ["nodes", "value"] (sp_scan_run K) := by
  refine T.F_scan_run.ok sc_scan_run (fun vs H Q E h => ?_) (fun cdv A outer s H vs Q E hr h => ?_)
  · obtain ⟨N, R, nodes, as, es, rfl, _⟩ := h
    rfl
  · obtain ⟨N, R, nodes, as, es, rfl, hN, hn, hR, hlen, htx, qN, qY⟩ := h
    refine ⟨_, (pss_cons (ps_if (pt_not (pt_val (pe_callB call_isi (by rfl) T.m_isinstance (by decide +kernel) (pa_cons (pv 1) (pa_cons (pe_bltn (v := .ty "list") (by rfl) T.m_list (by decide +kernel) rfl) pa_nil)))))
      (pss_one (ps_ret pe_non))
      pss_nil)
    (pss_cons (ps_setDc (i := 2) (own := [("node", 7)]) rfl sc_scan_run.nd rfl rfl (swd_true rfl rfl rfl (by decide +kernel)) (pi_list (pv 0)) (blkOk_by (N := ["nodes", "value", "sends", "opens", "index", "event", "kind", "node", "detail", "own", "sender", "number", "sent"]) (sc := defScope s_scan_run) (by decide +kernel)) (fun _ _ _ _ _ => (pg_name (i := 7) sc_scan_run.nd rfl (by first | exact .inl rfl | exact .inr rfl))) (fun _ _ _ _ _ => pts_nil) (fun _ _ _ _ _ => (pv 7)) (fun _ _ _ _ _ => (pe_lst pa_nil)))
    (pss_cons (ps_setDc (i := 3) (own := [("node", 7)]) rfl sc_scan_run.nd rfl rfl (swd_true rfl rfl rfl (by decide +kernel)) (pi_list (pv 0)) (blkOk_by (N := ["nodes", "value", "sends", "opens", "index", "event", "kind", "node", "detail", "own", "sender", "number", "sent"]) (sc := defScope s_scan_run) (by decide +kernel)) (fun _ _ _ _ _ => (pg_name (i := 7) sc_scan_run.nd rfl (by first | exact .inl rfl | exact .inr rfl))) (fun _ _ _ _ _ => pts_nil) (fun _ _ _ _ _ => (pv 7)) (fun _ _ _ _ _ => pe_dnewK))
    (pss_cons (ps_for PassesOwn.never rfl (pi_enum (by rfl) T.m_enumerate (pa_cons (pv 1) pa_nil)) (pg_tup rfl (pgs_cons (pg_name (i := 4) sc_scan_run.nd rfl (by first | exact .inl rfl | exact .inr rfl)) (pgs_cons (pg_name (i := 5) sc_scan_run.nd rfl (by first | exact .inl rfl | exact .inr rfl)) pgs_nil)))
      (pss_cons (ps_if (PW.pt (pw_or (pt_not (pt_val (pe_callB call_isi (by rfl) T.m_isinstance (by decide +kernel) (pa_cons (pv 5) (pa_cons (pe_bltn (v := .ty "tuple") (by rfl) T.m_tuple (by decide +kernel) rfl) pa_nil))))) (pw_or1 (pt_cmpR op_ne (pe_callB call_len_seq (by rfl) T.m_len PySem.boot_len (pa_cons (pv 5) pa_nil)) pe_int (nomark _)))))
        (pss_one (ps_ret pe_non))
        pss_nil)
      (pss_cons (ps_asg (pv 5) (pg_tup rfl (pgs_cons (pg_name (i := 6) sc_scan_run.nd rfl (by first | exact .inl rfl | exact .inr rfl)) (pgs_cons (pg_name (i := 7) sc_scan_run.nd rfl (by first | exact .inl rfl | exact .inr rfl)) (pgs_cons (pg_name (i := 8) sc_scan_run.nd rfl (by first | exact .inl rfl | exact .inr rfl)) pgs_nil)))))
      (pss_one (ps_if (pt_cmpR op_eq (pv 6) pe_str (nomark _))
        (pss_cons (ps_if (PW.pt (pw_or (pt_not (pt_val (pe_callB call_isi (by rfl) T.m_isinstance (by decide +kernel) (pa_cons (pv 7) (pa_cons (pe_bltn (v := .ty "str") (by rfl) T.m_str (by decide +kernel) rfl) pa_nil))))) (pw_or1 (pt_cmp (pc_dnotin (hu_of hr) (pv 7) (pv 2))))))
          (pss_one (ps_ret pe_non))
          pss_nil)
        (pss_cons (ps_set (i := 9) sc_scan_run.nd rfl (by first | exact .inl rfl | exact .inr rfl) (pe_dget (hu_of hr) (pv 2) (pv 7) (fun _ _ => rfl)))
        (pss_cons (ps_if (PW.pt (pw_and (PW.pt (pw_or (pt_not (pt_truth (pv 9) (fun _ => rfl))) (pw_or1 (pt_cmpR (op_neD hr.units) (pv 8) (pe_ix ix_tup (pe_ix ix_list (pv 1) (pe_ix ix_list (pv 9) (pe_un un_neg pe_int) (fun _ _ => rfl)) (fun _ _ => rfl)) pe_int (fun _ _ => rfl)) (nomark _))))) (pw_and1 (pt_not (pt_val (pe_call (ok_is_receivers T) (hr.mono (by decide)) rfl T.M_is_receivers T.F_is_receivers.kp (b_is_receivers T) .nil pass0 (pa_cons (pv 2) (pa_cons (pv 7) (pa_cons (pv 8) pa_nil)))))))))
          (pss_one (ps_ret pe_non))
          pss_nil)
        (pss_one (ps_expr (pe_bm PySem.F.plainAttrs_list PySem.F.slot_list_append PySem.F.type_list_append mt_append (pv 9) (pa_cons (pv 4) pa_nil)))))))
        (pss_one (ps_if (pt_cmpR op_eq (pv 6) pe_str (nomark _))
          (pss_cons (ps_if (PW.pt (pw_or (pt_not (pt_val (pe_callB call_isi (by rfl) T.m_isinstance (by decide +kernel) (pa_cons (pv 8) (pa_cons (pe_bltn (v := .ty "tuple") (by rfl) T.m_tuple (by decide +kernel) rfl) pa_nil))))) (pw_or1 (pt_cmpR op_ne (pe_callB call_len_seq (by rfl) T.m_len PySem.boot_len (pa_cons (pv 8) pa_nil)) pe_int (nomark _)))))
            (pss_one (ps_ret pe_non))
            pss_nil)
          (pss_cons (ps_asg (pv 8) (pg_tup rfl (pgs_cons (pg_name (i := 10) sc_scan_run.nd rfl (by first | exact .inl rfl | exact .inr rfl)) (pgs_cons (pg_name (i := 11) sc_scan_run.nd rfl (by first | exact .inl rfl | exact .inr rfl)) pgs_nil))))
          (pss_cons (ps_if (PW.pt (pw_or (pt_not (pt_val (pe_callB call_isi (by rfl) T.m_isinstance (by decide +kernel) (pa_cons (pv 10) (pa_cons (pe_bltn (v := .ty "str") (by rfl) T.m_str (by decide +kernel) rfl) pa_nil))))) (pw_or (pt_cmp (pc_dnotin (hu_of hr) (pv 10) (pv 2))) (pw_or (pt_not (pt_val (pe_callB call_isi (by rfl) T.m_isinstance (by decide +kernel) (pa_cons (pv 11) (pa_cons (pe_bltn (v := .ty "int") (by rfl) T.m_int (by decide +kernel) rfl) pa_nil))))) (pw_or1 (pt_cmpR op_is_ib (pv 11) pe_bl (nomark _)))))))
            (pss_one (ps_ret pe_non))
            pss_nil)
          (pss_cons (ps_set (i := 9) sc_scan_run.nd rfl (by first | exact .inl rfl | exact .inr rfl) (pe_dget (hu_of hr) (pv 2) (pv 10) (fun _ _ => rfl)))
          (pss_cons (ps_if (pt_not (pt_chain op_lt op_le pe_int (pv 11) (pe_callB call_len_seq (by rfl) T.m_len PySem.boot_len (pa_cons (pv 9) pa_nil))))
            (pss_one (ps_ret pe_non))
            pss_nil)
          (pss_cons (ps_set (i := 12) sc_scan_run.nd rfl (by first | exact .inl rfl | exact .inr rfl) (pe_ix ix_list (pv 9) (pe_op op_sub (pv 11) pe_int) (fun _ _ => rfl)))
          (pss_cons (ps_if (PW.pt (pw_or (pt_cmpR op_notIn_seq (pv 7) (pe_ix ix_tup (pe_ix ix_list (pv 1) (pv 12) (fun _ _ => rfl)) pe_int (fun _ _ => rfl)) rfl) (pw_or1 (pt_cmp (pc_din (hu_of hr) (pv 12) (pe_dget (hu_of hr) (pv 3) (pv 7) (fun _ _ => rfl)))))))
            (pss_one (ps_ret pe_non))
            pss_nil)
          (pss_one (ps_dput (hu_of hr) (pe_dget (hu_of hr) (pv 3) (pv 7) (fun _ _ => rfl)) (pv 12) (pv 4) rfl)))))))))
          (pss_one (ps_ret pe_non)))))))))
    (pss_one (ps_ret (pe_tup (pa_cons (pv 2) (pa_cons (pv 3) pa_nil))))))))), ?_⟩
    have nd := hn.nodup
    have n12 := hn.hi
    refine ⟨.ref R, rfl, _, _, _, _, true, rfl, .ty "list", .base (.lst hR.at'), kit_ty (by decide +kernel), true, rfl, iteF ?_⟩
    -- sends
    refine ⟨.ref N, rfl, N, rfl, ⟨_, ltI hN⟩, fun d1 hd1 => dc_nodes (o0 := .lst []) (show 7 < 13 by decide) hN nd (by omega) hd1 (fun σ H Q q => ⟨Nat.zero_le _, q⟩) fun H1 f s1 e1 f1 fi => ?_⟩
    -- opens
    refine ⟨.ref N, rfl, N, rfl, ⟨_, ltI (s1 _ _ hN)⟩, fun d2 hd2 => dc_nodes (o0 := .dK []) (show 7 < 13 by decide) (s1 _ _ hN) nd (by omega) hd2 (fun σ H Q q => q) fun H2 g s2 e2 g1 gi => ?_⟩
    have s02 : Same H H2 := s1.trans s2
    have FX : Fix H nodes d1 d2 f g := ⟨hd1, s1.free hd2, fun x hx => (f1 x hx).2.1, fun x hx => s1.free (g1 x hx).2.1, fi, gi, fun x hx z => (by
      have := (g1 x hx).2.1
      rw [z, e1] at this
      cases this), fun x hx => (g1 x hx).2.2⟩
    have I0 : Inv1 H H2 nodes es d1 d2 f g 0 := ⟨fun i hi => absurd hi (Nat.not_lt_zero _), s02, ⟨s2 _ _ e1, fun x hx => s2 _ _ (f1 x hx).1⟩, ⟨e2, fun x hx => (g1 x hx).1⟩⟩
    refine ⟨.ref R, rfl, R, _, rfl, ltI (s02 _ _ hR.at'), for_enum (xs := as.map V.ref) (fun i σ H' => Inv1 H H' nodes es d1 d2 f g i ∧ ∃ y4 y5 y6 y7 y8 y9 y10 y11 y12, σ = [some (.ref N), some (.ref R), some (.ref d1), some (.ref d2), y4, y5, y6, y7, y8, y9, y10, y11, y12]) ?_ ?_ ?_ ?_⟩
    · exact ⟨I0, none, none, none, none, none, none, none, none, none, rfl⟩
    · exact fun i σ H' _ hI => ltI (hI.1.sm _ _ hR.at')
    · rintro i v σ H' Tp hx ⟨I, y4, y5, y6, y7, y8, y9, y10, y11, y12, rfl⟩ hT
      rw [List.getElem?_map] at hx
      obtain ⟨a, ha, rfl⟩ := Option.map_eq_some_iff.mp hx
      have hia : i < es.length := by rw [← hR.len]; exact (List.getElem?_eq_some_iff.mp ha).1
      obtain ⟨e, he⟩ : ∃ e, es[i]? = some e := ⟨_, List.getElem?_eq_getElem hia⟩
      have hev0 : EvAt H a e := hR.ev i a e ha he
      refine ⟨Tp, _, rfl, tpI upd_same, rfl, _, _, rfl, _, _, rfl, rfl, ?_⟩
      have I1 := I.new (o := .tup [.int (i : Nat), .ref a]) hT
      have hev := hev0.same I1.sm
      have hRv : RunAt (upd H' Tp (.tup [.int (i : Nat), .ref a])) R as es := hR.same I1.sm
      generalize upd H' Tp (.tup [.int (i : Nat), .ref a]) = H3 at I1 hev hRv ⊢
      clear I hx hT
      have li : i < 1000 := by omega
      cases e with
      | snd x rs =>
        obtain ⟨l, hl1, hl2⟩ := hev
        refine ⟨.ref a, rfl, _, _, _, _, true, rfl, .ty "tuple", .base (.tup hl1), kit_ty (by decide +kernel), true, rfl, iteF ?_⟩
        refine ⟨.ref a, rfl, a, _, rfl, .inr (tpI hl1), rfl, false, rfl, iteF ?_⟩
        refine ⟨.ref a, rfl, a, _, rfl, tpI hl1, rfl, _, _, rfl, _, _, rfl, _, _, rfl, rfl, ?_⟩
        refine ⟨_, rfl, rfl, true, rfl, iteT ?_⟩
        refine ⟨.str x, rfl, _, _, _, _, true, rfl, .ty "str", .base (.str x), kit_ty (by decide +kernel), true, rfl, iteF ?_⟩
        refine ⟨.str x, rfl, .ref d1, rfl, d1, _, rfl, DGet.k (k := Sum.inr x) I1.s.at', _, rfl, ?_⟩
        by_cases c1 : x ∈ nodes
        · rw [valV_in c1]
          have hdg : DGet H3 d1 (.str x) (some (.ref (f x))) := by
            rw [← valV_in (h := fun x => V.ref (f x)) c1]
            exact DGet.k (k := Sum.inr x) I1.s.at'
          have own := I1.s.own x c1
          refine iteF ⟨.ref d1, rfl, .str x, rfl, d1, _, rfl, hdg, ?_⟩
          have step : recvB nodes x rs = true → Inv1 H (upd H3 (f x) (.lst (ixs ((Rs.upto nodes es i).sends x) ++ [.int (i : Nat)]))) nodes es d1 d2 f g (i + 1) := fun c2 => I1.send FX he c1 c2
          have bad : ¬ recvB nodes x rs = true → ∀ H', Same H H' → Q .non H' := fun c2 => qN (not_ok hia he fun z => c2 z.2)
          have hsl : ((Rs.upto nodes es i).sends x).length ≤ i := sends_len
          refine ⟨.ref (f x), rfl, !(ixs ((Rs.upto nodes es i).sends x)).isEmpty, .inl ⟨_, ltI own, rfl⟩, ?_⟩
          by_cases c0 : (Rs.upto nodes es i).sends x = []
          · rw [c0]
            refine iteT (iteT ?_)
            refine ⟨.ref d1, rfl, .str x, rfl, .ref l, rfl, d1, l, _, nodes, rs, x, rfl, I1.s.at', keys_map, hl2, _, rfl, ?_⟩
            by_cases c2 : recvB nodes x rs = true
            · rw [c2]
              refine iteF ⟨.ref (f x), rfl, .inl ⟨rfl, _, .inl (.inl own)⟩, _, rfl, f x, _, _, rfl, rfl, own, small1000 (by rw [len_ixs]; omega), step c2, _, _, _, _, _, _, _, _, _, rfl⟩
            · rw [Bool.not_eq_true _ |>.mp c2]
              exact iteT (bad c2 _ I1.sm)
          · obtain ⟨j0, hj0⟩ : ∃ j0, ((Rs.upto nodes es i).sends x)[((Rs.upto nodes es i).sends x).length - 1]? = some j0 := by
              have : 0 < ((Rs.upto nodes es i).sends x).length := List.length_pos_iff.mpr c0
              exact ⟨_, List.getElem?_eq_getElem (by omega)⟩
            have hpos : 0 < ((Rs.upto nodes es i).sends x).length := List.length_pos_iff.mpr c0
            obtain ⟨_, hj1, rs0, hj2, hj3⟩ := sends_ok I1.ok (List.mem_of_getElem? hj0)
            obtain ⟨a0, ha0, l0, hl3, hl4⟩ := hRv.get hj2
            have hne : (!(ixs ((Rs.upto nodes es i).sends x)).isEmpty) = true := by
              cases hz : (Rs.upto nodes es i).sends x with
              | nil => exact absurd hz c0
              | cons _ _ => rfl
            rw [hne]
            refine iteF ?_
            refine ⟨.ref l, rfl, .ref R, rfl, .ref (f x), rfl, 1, rfl, f x, _, -1, .int (j0 : Nat), rfl, rfl, ltI own, atI_last (by rw [len_ixs]; exact hpos) (by rw [len_ixs]; exact get_ixs hj0), ?_⟩
            refine ⟨R, _, _, .ref a0, rfl, rfl, ltI hRv.at', atI_nat (j := j0) (by rw [List.getElem?_map, ha0]; rfl), ?_⟩
            refine ⟨a0, _, 2, .ref l0, rfl, rfl, tpI hl3, atI_nat (j := 2) rfl, .list (rs.map .str), .list (rs0.map .str), .lst (ltI hl2) (dp_strs rs), .lst (ltI hl4) (dp_strs rs0), shaped_strs (htx i x rs he), shaped_strs (htx j0 x rs0 hj2), _, rfl, ?_⟩
            rw [show PyData.eqv (.list (rs.map .str)) (.list (rs0.map .str)) = decide (rs = rs0) from eqv_strs rs rs0]
            by_cases c3 : rs = rs0
            · have c2 : recvB nodes x rs = true := by rw [c3]; exact hj3
              rw [decide_eq_true c3]
              refine iteF (iteF ⟨.ref (f x), rfl, .inl ⟨rfl, _, .inl (.inl own)⟩, _, rfl, f x, _, _, rfl, rfl, own, small1000 (by rw [len_ixs]; omega), step c2, _, _, _, _, _, _, _, _, _, rfl⟩)
            · rw [decide_eq_false c3]
              refine iteT ⟨.ref d1, rfl, .str x, rfl, .ref l, rfl, d1, l, _, nodes, rs, x, rfl, I1.s.at', keys_map, hl2, _, rfl, ?_⟩
              by_cases c2 : recvB nodes x rs = true
              · rw [c2]
                refine iteF ⟨.ref (f x), rfl, .inl ⟨rfl, _, .inl (.inl own)⟩, _, rfl, f x, _, _, rfl, rfl, own, small1000 (by rw [len_ixs]; omega), step c2, _, _, _, _, _, _, _, _, _, rfl⟩
              · rw [Bool.not_eq_true _ |>.mp c2]
                exact iteT (bad c2 _ I1.sm)
        · rw [valV_out c1]
          refine iteT ?_
          exact qN (not_ok hia he fun z => c1 z.1) _ I1.sm
      | opn x sd n =>
        obtain ⟨m, hm1, hm2⟩ := hev
        refine ⟨.ref a, rfl, _, _, _, _, true, rfl, .ty "tuple", .base (.tup hm1), kit_ty (by decide +kernel), true, rfl, iteF ?_⟩
        refine ⟨.ref a, rfl, a, _, rfl, .inr (tpI hm1), rfl, false, rfl, iteF ?_⟩
        refine ⟨.ref a, rfl, a, _, rfl, tpI hm1, rfl, _, _, rfl, _, _, rfl, _, _, rfl, rfl, ?_⟩
        refine ⟨_, rfl, rfl, false, rfl, iteF ?_⟩
        refine ⟨_, rfl, rfl, true, rfl, iteT ?_⟩
        refine ⟨.ref m, rfl, _, _, _, _, true, rfl, .ty "tuple", .base (.tup hm2), kit_ty (by decide +kernel), true, rfl, iteF ?_⟩
        refine ⟨.ref m, rfl, m, _, rfl, .inr (tpI hm2), rfl, false, rfl, iteF ?_⟩
        refine ⟨.ref m, rfl, m, _, rfl, tpI hm2, rfl, _, _, rfl, _, _, rfl, rfl, ?_⟩
        refine ⟨.str sd, rfl, _, _, _, _, true, rfl, .ty "str", .base (.str sd), kit_ty (by decide +kernel), true, rfl, iteF ?_⟩
        refine ⟨.str sd, rfl, .ref d1, rfl, d1, _, rfl, DGet.k (k := Sum.inr sd) I1.s.at', _, rfl, ?_⟩
        have bad : (∀ j, sentAt (Rs.upto nodes es i) nodes sd n = some j → x ∈ recvAt es j → ((Rs.upto nodes es i).opens x).all (fun p => decide (p.1 ≠ j)) = true → False) → ∀ H', Same H H' → Q .non H' :=
          fun c => qN (not_ok hia he fun ⟨j, z1, z2, z3⟩ => c j z1 z2 z3)
        by_cases c1 : sd ∈ nodes
        · rw [valV_in c1]
          have hdg : DGet H3 d1 (.str sd) (some (.ref (f sd))) := by
            rw [← valV_in (h := fun x => V.ref (f x)) c1]
            exact DGet.k (k := Sum.inr sd) I1.s.at'
          have own := I1.s.own sd c1
          refine iteF ⟨.int n, rfl, _, _, _, _, true, rfl, .ty "int", .base (.int n), kit_ty (by decide +kernel), true, rfl, iteF ?_⟩
          refine ⟨.int n, rfl, n, true, rfl, rfl, false, rfl, iteF ?_⟩
          refine ⟨.ref d1, rfl, .str sd, rfl, d1, _, rfl, hdg, ?_⟩
          refine ⟨.int n, rfl, 0, n, rfl, rfl, _, rfl, ?_⟩
          by_cases c2 : 0 < n
          · rw [decide_eq_true c2]
            refine iteT ⟨.ref (f sd), rfl, f sd, _, rfl, .inl (ltI own), n, _, rfl, rfl, _, rfl, ?_⟩
            rw [len_ixs]
            by_cases c3 : n ≤ (((Rs.upto nodes es i).sends sd).length : Nat)
            · rw [decide_eq_true c3]
              have c3' : (n - 1).toNat < ((Rs.upto nodes es i).sends sd).length := by omega
              have hj : ((Rs.upto nodes es i).sends sd)[(n - 1).toNat]? = some (((Rs.upto nodes es i).sends sd)[(n - 1).toNat]) := List.getElem?_eq_getElem c3'
              generalize ((Rs.upto nodes es i).sends sd)[(n - 1).toNat] = j at hj
              have hsent : sentAt (Rs.upto nodes es i) nodes sd n = some j := by
                unfold sentAt
                rw [if_pos ⟨c1, c2⟩]
                exact hj
              obtain ⟨_, hj1, rs0, hj2, hj3⟩ := sends_ok I1.ok (List.mem_of_getElem? hj)
              obtain ⟨a0, ha0, l0, hl3, hl4⟩ := hRv.get hj2
              refine iteF ⟨.ref (f sd), rfl, .int n, rfl, n, 1, rfl, rfl, f sd, _, n - 1, .int (j : Nat), rfl, rfl, ltI own, at_of (j := (n - 1).toNat) (by omega) (get_ixs hj), ?_⟩
              refine ⟨.str x, rfl, .ref R, rfl, .int (j : Nat), rfl, R, _, _, .ref a0, rfl, rfl, ltI hRv.at', atI_nat (j := j) (by rw [List.getElem?_map, ha0]; rfl), ?_⟩
              refine ⟨a0, _, 2, .ref l0, rfl, rfl, tpI hl3, atI_nat (j := 2) rfl, l0, _, rfl, .inl (ltI hl4), rfl, flat_str rs0, _, rfl, ?_⟩
              rw [inV_str]
              have hra := recvAt_snd hj2
              by_cases c4 : x ∈ rs0
              · rw [decide_eq_true c4]
                have cx : x ∈ nodes := (recvB_mem hj3 c4).1
                have hog : DGet H3 d2 (.str x) (some (.ref (g x))) := by
                  rw [← valV_in (h := fun x => V.ref (g x)) cx]
                  exact DGet.k (k := Sum.inr x) I1.o.at'
                have oown := I1.o.own x cx
                have hol : ((Rs.upto nodes es i).opens x).length ≤ i := opens_len
                refine iteF ⟨.int (j : Nat), rfl, .ref d2, rfl, .str x, rfl, d2, _, rfl, hog, g x, _, rfl, DGet.k (k := Sum.inl ((j : Nat) : Int)) oown, _, rfl, ?_⟩
                rw [valV_ops]
                by_cases c5 : ((Rs.upto nodes es i).opens x).all (fun p => decide (p.1 ≠ j)) = true
                · rw [c5]
                  refine iteF ?_
                  refine ⟨_, rfl, .ref d2, rfl, .str x, rfl, d2, _, rfl, hog, .int (j : Nat), rfl, g x, _, rfl, DPut.k (k := Sum.inl ((j : Nat) : Int)) oown (small1000 (by rw [List.length_map]; omega)), ?_⟩
                  exact ⟨I1.opn FX he hsent cx (by rw [hra]; exact c4) c5, _, _, _, _, _, _, _, _, _, rfl⟩
                · rw [Bool.not_eq_true _ |>.mp c5]
                  refine iteT (bad (fun j' z1 z2 z3 => ?_) _ I1.sm)
                  rw [hsent] at z1
                  cases z1
                  exact c5 z3
              · rw [decide_eq_false c4]
                refine iteT (bad (fun j' z1 z2 z3 => ?_) _ I1.sm)
                rw [hsent] at z1
                cases z1
                rw [hra] at z2
                exact c4 z2
            · rw [decide_eq_false c3]
              refine iteT (bad (fun j' z1 z2 z3 => ?_) _ I1.sm)
              have := sentAt_mem z1
              have h9 := (List.getElem?_eq_some_iff.mp this.2.2.1).1
              omega
          · rw [decide_eq_false c2]
            exact ⟨false, rfl, iteT (bad (fun j' z1 z2 z3 => c2 (sentAt_mem z1).2.1) _ I1.sm)⟩
        · rw [valV_out c1]
          exact iteT (bad (fun j' z1 z2 z3 => c1 (sentAt_mem z1).1) _ I1.sm)
    · rintro σ H' ⟨I, y4, y5, y6, y7, y8, y9, y10, y11, y12, rfl⟩
      rw [List.length_map, hR.len] at I
      refine ⟨.ref d1, rfl, .ref d2, rfl, by show 2 ≤ sizeLine; decide, fun p hp => ?_⟩
      exact qY I.ok _ p d1 d2 f g (I.sm.trans (same_new hp)) (I.sm.free hp) upd_same (I.s.same (same_new hp)) (I.o.same (same_new hp))
end
end KA

set_option Elab.async false
set_option linter.all false
set_option maxRecDepth 100000
set_option maxHeartbeats 16000000
namespace KA
open PySem PySem.Spec PyProof.Rows L2 L2.Dx
section
variable {P : Program} {w : World} {K : PySem.W.Frag} {mg : Str → Option Value} {base : Heap}
def sp_check_nodes : Sp := fun vs H Q _ => ∃ (a : Addr) (ns : List Str), vs = [.ref a] ∧ H a = some (.lst (ns.map V.str)) ∧ NodesOk ns ∧ Q .non H
theorem ok_check_nodes (T : Txt K mg) : FnOk P w K mg base CX0 2 T.f_check_nodes T.fd_check_nodes ["nodes"] sp_check_nodes := by
  refine T.F_check_nodes.ok sc_check_nodes (fun vs H Q E h => ?_) (fun cdv A outer s H vs Q E hr h => ?_)
  · obtain ⟨a, ns, rfl, _⟩ := h
    rfl
  · obtain ⟨a, ns, rfl, ha, hn, q⟩ := h
    refine ⟨_, (pss_one (ps_if (pt_not (pt_val (pe_call (ok_is_nodes T) (hr.mono (by decide)) rfl T.M_is_nodes T.F_is_nodes.kp (b_is_nodes T) .nil pass0 (pa_cons (pv 0) pa_nil))))
      (pss_one ps_never)
      pss_nil)), ?_⟩
    exact ⟨.ref a, rfl, a, ns, rfl, ha, hn, true, rfl, iteF q⟩
def sp_check_node : Sp := fun vs H Q _ => ∃ (a : Addr) (ns : List Str) (x : Str), vs = [.ref a, .str x] ∧ H a = some (.lst (ns.map V.str)) ∧ x ∈ ns ∧ Q .non H
theorem ok_check_node (T : Txt K mg) : FnOk P w K mg base CX0 2 T.f_check_node T.fd_check_node ["nodes", "node"] sp_check_node := by
  refine T.F_check_node.ok sc_check_node (fun vs H Q E h => ?_) (fun cdv A outer s H vs Q E hr h => ?_)
  · obtain ⟨a, ns, x, rfl, _⟩ := h
    rfl
  · obtain ⟨a, ns, x, rfl, ha, hx, q⟩ := h
    refine ⟨_, (pss_one (ps_if (pt_not (pt_val (pe_call (ok_is_node T) (hr.mono (by decide)) rfl T.M_is_node T.F_is_node.kp (b_is_node T) .nil pass0 (pa_cons (pv 0) (pa_cons (pv 1) pa_nil)))))
      (pss_one ps_never)
      pss_nil)), ?_⟩
    refine ⟨.ref a, rfl, .str x, rfl, a, ns, x, rfl, ha, true, ?_, iteF q⟩
    rw [decide_eq_true hx]
def sp_check_message : Sp := fun vs H Q _ => ∃ (d m : Addr) (nodes : List Str) (fa : Str → Addr) (r : Rs) (s : Str) (n : Int) (j : Nat), vs = [.ref d, .ref m] ∧ SendsAt H d nodes fa r.sends ∧ H m = some (.tup [.str s, .int n]) ∧
  sentAt r nodes s n = some j ∧ Q (.int (j : Nat)) H
theorem ok_check_message (T : Txt K mg) : FnOk P w K mg base CX0 2 T.f_check_message T.fd_check_message ["sends", "message"] sp_check_message := by
  refine T.F_check_message.ok sc_check_message (fun vs H Q E h => ?_) (fun cdv A outer s H vs Q E hr h => ?_)
  · obtain ⟨d, m, nodes, fa, r, s, n, j, rfl, _⟩ := h
    rfl
  · obtain ⟨d, m, nodes, fa, r, sd, n, j, rfl, hS, hm, hj, q⟩ := h
    refine ⟨_, (pss_cons (ps_set (i := 2) sc_check_message.nd rfl (by first | exact .inl rfl | exact .inr rfl) (pe_call (ok_find_send T) (hr.mono (by decide)) rfl T.M_find_send T.F_find_send.kp (b_find_send T) .nil pass0 (pa_cons (pv 0) (pa_cons (pv 1) pa_nil))))
    (pss_cons (ps_if (pt_cmpR op_isN (pv 2) pe_non (nomark _))
      (pss_one ps_never)
      pss_nil)
    (pss_one (ps_ret (pv 2))))), ?_⟩
    refine ⟨.ref d, rfl, .ref m, rfl, d, m, nodes, fa, r, sd, n, rfl, hS, hm, ?_⟩
    rw [hj]
    exact ⟨_, rfl, rfl, false, rfl, iteF ⟨_, rfl, q⟩⟩
/-- nodes and a run of them -/
structure Given (H : Hp) (N R : Addr) (nodes : List Str) (as : List Addr) (es : List Ev) : Prop where
  n : H N = some (.lst (nodes.map V.str))
  ok : NodesOk nodes
  r : RunAt H R as es
  len : es.length ≤ 1000
  tx : TextsOk es
def sp_check_run : Sp := fun vs H Q _ => ∃ (N R : Addr) (nodes : List Str) (as : List Addr) (es : List Ev), vs = [.ref N, .ref R] ∧ Given H N R nodes as es ∧ RunOk nodes es ∧
  ∀ (H' : Hp) (p d1 d2 : Addr) (f g : Str → Addr), Same H H' → H p = none → H' p = some (.tup [.ref d1, .ref d2]) → SendsAt H' d1 nodes f (Rs.upto nodes es es.length).sends → OpensAt H' d2 nodes g (Rs.upto nodes es es.length).opens → Q (.ref p) H'
theorem ok_check_run (T : Txt K mg) : FnOk P w K mg base CX0 3 T.f_check_run T.fd_check_run ["nodes", "run"] sp_check_run := by
  refine T.F_check_run.ok sc_check_run (fun vs H Q E h => ?_) (fun cdv A outer s H vs Q E hr h => ?_)
  · obtain ⟨N, R, nodes, as, es, rfl, _⟩ := h
    rfl
  · obtain ⟨N, R, nodes, as, es, rfl, G, ok, q⟩ := h
    refine ⟨_, (pss_cons (ps_expr (pe_call (ok_check_nodes T) (hr.mono (by decide)) rfl T.M_check_nodes T.F_check_nodes.kp (b_check_nodes T) .nil pass0 (pa_cons (pv 0) pa_nil)))
    (pss_cons (ps_set (i := 2) sc_check_run.nd rfl (by first | exact .inl rfl | exact .inr rfl) (pe_call (ok_scan_run T) (hr.mono (by decide)) rfl T.M_scan_run T.F_scan_run.kp (b_scan_run T) .nil pass0 (pa_cons (pv 0) (pa_cons (pv 1) pa_nil))))
    (pss_cons (ps_if (pt_cmpR op_isN (pv 2) pe_non (nomark _))
      (pss_one ps_never)
      pss_nil)
    (pss_one (ps_ret (pv 2)))))), ?_⟩
    refine ⟨.ref N, rfl, N, nodes, rfl, G.n, G.ok, ?_⟩
    refine ⟨.ref N, rfl, .ref R, rfl, N, R, nodes, as, es, rfl, G.n, G.ok, G.r, G.len, G.tx, fun z => absurd ok z, fun _ H' p d1 d2 f g s1 s2 s3 s4 s5 => ?_⟩
    exact ⟨_, rfl, rfl, false, rfl, iteF ⟨_, rfl, q H' p d1 d2 f g s1 s2 s3 s4 s5⟩⟩
def sp_send_index : Sp := fun vs H Q _ => ∃ (N R m : Addr) (nodes : List Str) (as : List Addr) (es : List Ev) (s : Str) (n : Int) (j : Nat), vs = [.ref N, .ref R, .ref m] ∧ Given H N R nodes as es ∧ RunOk nodes es ∧ H m = some (.tup [.str s, .int n]) ∧
  sentAt (Rs.upto nodes es es.length) nodes s n = some j ∧ ∀ H', Same H H' → Q (.int (j : Nat)) H'
theorem ok_send_index (T : Txt K mg) : FnOk P w K mg base CX0 4 T.f_send_index T.fd_send_index ["nodes", "run", "message"] sp_send_index := by
  refine T.F_send_index.ok sc_send_index (fun vs H Q E h => ?_) (fun cdv A outer s H vs Q E hr h => ?_)
  · obtain ⟨N, R, m, nodes, as, es, s, n, j, rfl, _⟩ := h
    rfl
  · obtain ⟨N, R, m, nodes, as, es, sd, n, j, rfl, G, ok, hm, hj, q⟩ := h
    refine ⟨_, (pss_cons (ps_asg (pe_call (ok_check_run T) (hr.mono (by decide)) rfl T.M_check_run T.F_check_run.kp (b_check_run T) .nil pass0 (pa_cons (pv 0) (pa_cons (pv 1) pa_nil))) (pg_tup rfl (pgs_cons (pg_name (i := 3) sc_send_index.nd rfl (by first | exact .inl rfl | exact .inr rfl)) (pgs_cons (pg_name (i := 4) sc_send_index.nd rfl (by first | exact .inl rfl | exact .inr rfl)) pgs_nil))))
    (pss_one (ps_ret (pe_call (ok_check_message T) (hr.mono (by decide)) rfl T.M_check_message T.F_check_message.kp (b_check_message T) .nil pass0 (pa_cons (pv 3) (pa_cons (pv 2) pa_nil)))))), ?_⟩
    refine ⟨.ref N, rfl, .ref R, rfl, N, R, nodes, as, es, rfl, G, ok, fun H' p d1 d2 f g s1 s2 s3 s4 s5 => ?_⟩
    refine ⟨p, _, rfl, tpI s3, rfl, _, _, rfl, _, _, rfl, rfl, ?_⟩
    exact ⟨.ref d1, rfl, .ref m, rfl, d1, m, nodes, f, _, sd, n, j, rfl, s4, s1 _ _ hm, hj, q _ s1⟩
def sp_open_index : Sp := fun vs H Q _ => ∃ (N R m : Addr) (nodes : List Str) (as : List Addr) (es : List Ev) (s x : Str) (n : Int) (j : Nat), vs = [.ref N, .ref R, .ref m, .str x] ∧ Given H N R nodes as es ∧ RunOk nodes es ∧ H m = some (.tup [.str s, .int n]) ∧
  sentAt (Rs.upto nodes es es.length) nodes s n = some j ∧ x ∈ nodes ∧ ∀ H', Same H H' → Q ((valV (ops ((Rs.upto nodes es es.length).opens x)) (.inl ((j : Nat) : Int))).getD .non) H'
theorem ok_open_index (T : Txt K mg) : FnOk P w K mg base CX0 4 T.f_open_index T.fd_open_index ["nodes", "run", "message", "node"] sp_open_index := by
  refine T.F_open_index.ok sc_open_index (fun vs H Q E h => ?_) (fun cdv A outer s H vs Q E hr h => ?_)
  · obtain ⟨N, R, m, nodes, as, es, s, x, n, j, rfl, _⟩ := h
    rfl
  · obtain ⟨N, R, m, nodes, as, es, sd, x, n, j, rfl, G, ok, hm, hj, hx, q⟩ := h
    refine ⟨_, (pss_cons (ps_asg (pe_call (ok_check_run T) (hr.mono (by decide)) rfl T.M_check_run T.F_check_run.kp (b_check_run T) .nil pass0 (pa_cons (pv 0) (pa_cons (pv 1) pa_nil))) (pg_tup rfl (pgs_cons (pg_name (i := 4) sc_open_index.nd rfl (by first | exact .inl rfl | exact .inr rfl)) (pgs_cons (pg_name (i := 5) sc_open_index.nd rfl (by first | exact .inl rfl | exact .inr rfl)) pgs_nil))))
    (pss_cons (ps_set (i := 6) sc_open_index.nd rfl (by first | exact .inl rfl | exact .inr rfl) (pe_call (ok_check_message T) (hr.mono (by decide)) rfl T.M_check_message T.F_check_message.kp (b_check_message T) .nil pass0 (pa_cons (pv 4) (pa_cons (pv 2) pa_nil))))
    (pss_cons (ps_expr (pe_call (ok_check_node T) (hr.mono (by decide)) rfl T.M_check_node T.F_check_node.kp (b_check_node T) .nil pass0 (pa_cons (pv 0) (pa_cons (pv 3) pa_nil))))
    (pss_one (ps_ret (pe_dget1 (hu_of hr) (pe_dget (hu_of hr) (pv 5) (pv 3) (fun _ _ => rfl)) (pv 6) ⟨rfl, rfl, rfl, rfl⟩)))))), ?_⟩
    refine ⟨.ref N, rfl, .ref R, rfl, N, R, nodes, as, es, rfl, G, ok, fun H' p d1 d2 f g s1 s2 s3 s4 s5 => ?_⟩
    refine ⟨p, _, rfl, tpI s3, rfl, _, _, rfl, _, _, rfl, rfl, ?_⟩
    refine ⟨.ref d1, rfl, .ref m, rfl, d1, m, nodes, f, _, sd, n, j, rfl, s4, s1 _ _ hm, hj, ?_⟩
    refine ⟨.ref N, rfl, .str x, rfl, N, nodes, x, rfl, s1 _ _ G.n, hx, ?_⟩
    have hog : DGet H' d2 (.str x) (some (.ref (g x))) := by
      rw [← valV_in (h := fun x => V.ref (g x)) hx]
      exact DGet.k (k := Sum.inr x) s5.at'
    exact ⟨.ref d2, rfl, .str x, rfl, d2, _, rfl, hog, g x, rfl, .inl ⟨_, .inl (s5.own x hx)⟩, .int (j : Nat), rfl, _, DGet.k (k := Sum.inl ((j : Nat) : Int)) (s5.own x hx), q _ s1⟩
end
end KA

set_option Elab.async false
set_option linter.all false
set_option maxRecDepth 100000
set_option maxHeartbeats 16000000
namespace KA
open PySem PySem.Spec PyProof.Rows L2 L2.Dx
section
variable {P : Program} {w : World} {K : PySem.W.Frag} {mg : Str → Option Value} {base : Heap}
def sp_messages_of : Sp := fun vs H Q _ => ∃ (N R : Addr) (nodes : List Str) (as : List Addr) (es : List Ev), vs = [.ref N, .ref R] ∧ Given H N R nodes as es ∧ RunOk nodes es ∧
  ∀ (H' : Hp) (D : Addr) (h : Msg → Addr), Same H H' → H D = none → MsgsAt H H' D es (allMsgs nodes (Rs.upto nodes es es.length).sends) h → Q (.ref D) H'
theorem allMsgs_len {S : Str → List Nat} {m : Nat} (hS : ∀ x, (S x).length ≤ m) : ∀ nodes : List Str, (allMsgs nodes S).length ≤ nodes.length * m
  | [] => by simp [allMsgs]
  | x :: r => by
    have ih := allMsgs_len hS r
    unfold allMsgs at ih ⊢
    rw [List.flatMap_cons, List.length_append]
    have : (msgsOf x (S x)).length = (S x).length := by
      unfold msgsOf
      rw [List.length_map, numFrom_len]
    have h2 := hS x
    rw [this, List.length_cons, Nat.succ_mul]
    omega
theorem ok_messages_of (T : Txt K mg) : FnOk P w K mg base CX0 4 T.f_messages_of T.fd_messages_of ["nodes", "run"] sp_messages_of := by
  refine T.F_messages_of.ok sc_messages_of (fun vs H Q E h => ?_) (fun cdv A outer s H vs Q E hr h => ?_)
  · obtain ⟨N, R, nodes, as, es, rfl, _⟩ := h
    rfl
  · obtain ⟨N, R, nodes, as, es, rfl, G, ok, q⟩ := h
    refine ⟨_, (pss_cons (ps_asg (pe_call (ok_check_run T) (hr.mono (by decide)) rfl T.M_check_run T.F_check_run.kp (b_check_run T) .nil pass0 (pa_cons (pv 0) (pa_cons (pv 1) pa_nil))) (pg_tup rfl (pgs_cons (pg_name (i := 2) sc_messages_of.nd rfl (by first | exact .inl rfl | exact .inr rfl)) (pgs_cons (pg_name (i := 3) sc_messages_of.nd rfl (by first | exact .inl rfl | exact .inr rfl)) pgs_nil))))
    (pss_one (ps_ret (pe_dc2 (own := [("node", 4), ("number", 5), ("index", 6)]) (vs1 := [5, 6]) (hu_of hr) newT rfl sc_messages_of.nd (pi_list (pv 0)) (blkOk_by (N := ["nodes", "run", "sends", "_", "node", "number", "index"]) (sc := defScope s_messages_of) (by decide +kernel)) (by decide) (fun _ _ _ _ _ => (pg_name (i := 4) sc_messages_of.nd rfl (by first | exact .inl rfl | exact .inr rfl))) (fun _ _ _ _ _ => pts_nil) (fun _ _ _ _ _ => (pi_enumSK (K := K) rfl (by decide) (by decide) (by rfl) T.m_enumerate (pa_cons (pe_dget (hu_of hr) (pv 2) (pv 4) (fun _ _ => rfl)) pa_nil))) (fun _ _ _ _ _ => (pg_tupK (K := K) rfl 2 rfl (pgs_cons (pg_name (i := 5) sc_messages_of.nd rfl (by first | exact .inl rfl | exact .inr rfl)) (pgs_cons (pg_name (i := 6) sc_messages_of.nd rfl (by first | exact .inl rfl | exact .inr rfl)) pgs_nil)))) (fun _ _ _ _ _ => pts_nil) (fun _ _ _ _ _ => (pe_tup (pa_cons (pv 4) (pa_cons (pv 5) pa_nil)))) (fun _ _ _ _ _ => (pe_slice (sl_listK (K := K) rfl) (pe_ix (ix_tupK (K := K) rfl) (pe_ix (ix_listK (K := K) rfl) (pv 1) (pv 6) (fun _ _ => rfl)) pe_int (fun _ _ => rfl)) po_none po_none)))))), ?_⟩
    refine ⟨.ref N, rfl, .ref R, rfl, N, R, nodes, as, es, rfl, G, ok, fun H1 p d1 d2 f g s1 s2 s3 s4 s5 => ?_⟩
    refine ⟨p, _, rfl, tpI s3, rfl, _, _, rfl, _, _, rfl, rfl, ?_⟩
    have n12 := G.ok.hi
    have nd := G.ok.nodup
    generalize hS : (Rs.upto nodes es es.length).sends = S at s4 q
    have hSl : ∀ x, (S x).length ≤ 1000 := fun x => by rw [← hS]; exact Nat.le_trans sends_len G.len
    have hSo : ∀ {x : Str} {j : Nat}, j ∈ S x → x ∈ nodes ∧ j < es.length ∧ ∃ rs, es[j]? = some (.snd x rs) ∧ recvB nodes x rs = true := fun hj => by rw [← hS] at hj; exact sends_ok ok hj
    refine ⟨.ref N, rfl, N, rfl, ⟨_, ltI (s1 _ _ G.n)⟩, fun D hD => dc2_outer (xs := nodes.map V.str) (fun i H' => Same H1 H' ∧ ∃ h, MsgsAt H H' D es (allMsgs (nodes.take i) S) h) ?_ ?_ ?_ ?_⟩
    · exact ⟨same_new hD, fun _ => 0, upd_same, (fun t ht => by cases ht), (fun t ht => by cases ht)⟩
    · exact fun i H' _ hI => ltI (hI.1 _ _ (s1 _ _ G.n))
    · rintro i v H' hx ⟨sm, h, hM⟩
      rw [List.getElem?_map] at hx
      obtain ⟨x, hn, rfl⟩ := Option.map_eq_some_iff.mp hx
      have hxn := List.mem_of_getElem? hn
      refine ⟨rfl, ?_⟩
      dsimp only [tYes]
      rw [if_pos rfl]
      have sf := (s4.same sm)
      have hdg : DGet H' d1 (.str x) (some (.ref (f x))) := by
        rw [← valV_in (h := fun x => V.ref (f x)) hxn]
        exact DGet.k (k := Sum.inr x) sf.at'
      refine ⟨.ref d1, rfl, .str x, rfl, d1, _, rfl, hdg, f x, _, rfl, ltI (sf.own x hxn), dc2_inner (xs := ixs (S x)) (fun k H2 => Same H1 H2 ∧ ∃ h, MsgsAt H H2 D es (allMsgs (nodes.take i) S ++ msgsOf x ((S x).take k)) h) ?_ ?_ ?_ ?_⟩
      · refine ⟨sm, h, ?_⟩
        simpa [msgsOf, numFrom] using hM
      · exact fun k H2 _ hI => ltI ((s4.same hI.1).own x hxn)
      · rintro k v2 H2 Tp hk ⟨sm2, h2, hM2⟩ hT
        rw [List.getElem?_map] at hk
        obtain ⟨j, hj, rfl⟩ := Option.map_eq_some_iff.mp hk
        obtain ⟨_, hjl, rs, hjs, _⟩ := hSo (List.mem_of_getElem? hj)
        have hRv : RunAt (upd H2 Tp (.tup [.int (1 + (k : Nat)), .int (j : Nat)])) R as es := G.r.same (s1.trans (sm2.trans (same_new hT)))
        obtain ⟨a, ha, l, hl1, hl2⟩ := hRv.get hjs
        refine ⟨Tp, _, rfl, tpI upd_same, rfl, _, _, rfl, _, _, rfl, rfl, rfl, ?_⟩
        have sm3 : Same H1 (upd H2 Tp (.tup [.int (1 + (k : Nat)), .int (j : Nat)])) := sm2.trans (same_new hT)
        have hM3 := hM2.same (same_new (o := .tup [.int (1 + (k : Nat)), .int (j : Nat)]) hT)
        generalize upd H2 Tp (.tup [.int (1 + (k : Nat)), .int (j : Nat)]) = H3 at hRv hl1 hl2 sm3 hM3 ⊢
        dsimp only [tYes]
        rw [if_pos rfl]
        -- the key
        refine ⟨.str x, rfl, .int (1 + (k : Nat)), rfl, by show 2 ≤ sizeLine; decide, fun qk hqk => ?_⟩
        have sq : Same H3 (upd H3 qk (.tup [.str x, .int (1 + (k : Nat))])) := same_new hqk
        -- the value
        refine ⟨.ref R, rfl, .int (j : Nat), rfl, R, _, _, .ref a, rfl, rfl, ltI (sq _ _ hRv.at'), atI_nat (j := j) (by rw [List.getElem?_map, ha]; rfl), ?_⟩
        refine ⟨a, _, 2, .ref l, rfl, rfl, tpI (sq _ _ hl1), atI_nat (j := 2) rfl, ?_⟩
        refine ⟨l, _, rfl, ltI (sq _ _ hl2), fun pv hpv => ?_⟩
        rw [cut_all]
        have sv : Same (upd H3 qk (.tup [.str x, .int (1 + (k : Nat))])) (upd (upd H3 qk (.tup [.str x, .int (1 + (k : Nat))])) pv (.lst (rs.map V.str))) := same_new hpv
        have hqv := sv _ _ (upd_same (H := H3) (a := qk) (o := .tup [.str x, .int (1 + (k : Nat))]))
        have hM4 := (hM3.same sq).same sv
        have hpq : H3 pv = none := sq.free hpv
        have ek : (1 + (k : Nat) : Int) = ((k + 1 : Nat) : Int) := by omega
        have hnew : ∀ t ∈ allMsgs (nodes.take i) S ++ msgsOf x ((S x).take k), keyOf t ≠ keyOf (x, k + 1, j) := fun t ht z => by
          have z1 : t.1 = x := Sum.inr.inj (List.cons.inj z).1
          have z2 : ((t.2.1 : Nat) : Int) = ((k + 1 : Nat) : Int) := Sum.inl.inj (List.cons.inj (List.cons.inj z).2).1
          rcases List.mem_append.mp ht with ht | ht
          · have := (all_mem ht).1
            rw [z1] at this
            exact notin_take nd hn this
          · have := (msgsOf_mem ht).2.2.1
            rw [List.length_take] at this
            omega
        have hlen : (allMsgs (nodes.take i) S ++ msgsOf x ((S x).take k)).length < 100000 := by
          have h1 := allMsgs_len hSl (nodes.take i)
          have h2 : (nodes.take i).length ≤ 12 := Nat.le_trans (List.length_take_le' _ _) n12
          have h3 : (msgsOf x ((S x).take k)).length ≤ 1000 := by
            unfold msgsOf
            rw [List.length_map, numFrom_len]
            exact Nat.le_trans (List.length_take_le' _ _) (hSl x)
          have h4 := Nat.mul_le_mul_right 1000 h2
          rw [List.length_append]
          omega
        refine ⟨_, DPut.t (k := keyOf (x, k + 1, j)) hM4.at' ?_ (Nat.lt_trans (by rw [List.length_map]; exact hlen) (by decide)), ?_, ?_⟩
        · rw [hqv, ek]
          rfl
        · exact same_put ((sm3.trans sq).trans sv) hD
        · have hp0 : H pv = none := s1.free (sm3.free hpq)
          refine ⟨fun t => if t = (x, k + 1, j) then pv else h2 t, ?_⟩
          rw [msgs_snoc hj, ← List.append_assoc]
          refine hM4.put hnew ?_ hp0 fun t ht z => ?_
          · rw [upd_same, recvAt_snd hjs]
          · have := (hM3.own t ht).1
            rw [z, hpq] at this
            cases this
      · rintro H2 ⟨sm2, h2, hM2⟩
        rw [len_ixs, List.take_length] at hM2
        exact ⟨sm2, h2, by rw [all_snoc hn]; exact hM2⟩
    · rintro H' ⟨sm, h, hM⟩
      rw [List.length_map, List.take_length] at hM
      exact q H' D h (s1.trans sm) (s1.free hD) hM
end
end KA

set_option Elab.async false
set_option linter.all false
set_option maxRecDepth 100000
set_option maxHeartbeats 4000000
namespace KA
open PySem PySem.Spec PyProof.Rows L2 L2.Dx Kx
/-- a seed list -/
def SeedAt (H : Hp) (a : Addr) : Prop := ∃ x y z : Int, H a = some (.lst [.int x, .int y, .int z]) ∧ 0 ≤ x ∧ 0 ≤ y ∧ y.natAbs < 2 ^ 200
/-- an event none of whose parts is at Z -/
def EvZ (Z : List Addr) (H : Hp) (a : Addr) : Ev → Prop
  | .snd x rs => ∃ l, a ∉ Z ∧ l ∉ Z ∧ H a = some (.tup [.str "send", .str x, .ref l]) ∧ H l = some (.lst (rs.map V.str))
  | .opn x s n => ∃ m, a ∉ Z ∧ m ∉ Z ∧ H a = some (.tup [.str "open", .str x, .ref m]) ∧ H m = some (.tup [.str s, .int n])
theorem EvZ.at' {Z : List Addr} {H : Hp} {a : Addr} {e : Ev} (h : EvZ Z H a e) : EvAt H a e := by
  cases e with
  | snd x rs => exact h.elim fun l k => ⟨l, k.2.2⟩
  | opn x s n => exact h.elim fun l k => ⟨l, k.2.2⟩
theorem EvZ.but {Z : List Addr} {H H' : Hp} {a : Addr} {e : Ev} (h : EvZ Z H a e) (b : But Z H H') : EvZ Z H' a e := by
  cases e with
  | snd x rs => exact h.elim fun l ⟨k1, k2, k3, k4⟩ => ⟨l, k1, k2, b _ _ k1 k3, b _ _ k2 k4⟩
  | opn x s n => exact h.elim fun l ⟨k1, k2, k3, k4⟩ => ⟨l, k1, k2, b _ _ k1 k3, b _ _ k2 k4⟩
theorem EvZ.same {Z : List Addr} {H H' : Hp} {a : Addr} {e : Ev} (h : EvZ Z H a e) (s : Same H H') : EvZ Z H' a e := h.but (But.same s)
theorem EvZ.opn_put {Z : List Addr} {H : Hp} {a D : Addr} {x s : Str} {n : Int} {xs : List V} {o : HO} (h : EvZ Z H a (.opn x s n)) (hd : H D = some (.lst xs)) : EvZ Z (upd H D o) a (.opn x s n) := by
  obtain ⟨m, k1, k2, k3, k4⟩ := h
  exact ⟨m, k1, k2, (upd_ne (ne_of k3 hd (by intro z; cases z))).trans k3, (upd_ne (ne_of k4 hd (by intro z; cases z))).trans k4⟩
def CntAt (kvs : List (Key × V)) (S : Str → List Nat) : Prop := ∀ x : Str, valV kvs (.inr x) = if (S x).length = 0 then none else some (.int ((S x).length : Nat))
/-- where the four changing objects stand, that they are new, apart -/
structure Four (H0 : Hp) (sd F C W : Addr) : Prop where
  nF : H0 F = none
  nC : H0 C = none
  nW : H0 W = none
  fs : F ≠ sd
  cs : C ≠ sd
  ws : W ≠ sd
  fc : F ≠ C
  fw : F ≠ W
  cw : C ≠ W
abbrev zz (sd F C W : Addr) : List Addr := [sd, F, C, W]
structure LInv (H0 H : Hp) (sd F C W : Addr) (nodes : List Str) (es : List Ev) (as : List Addr) (pend : List Pend) (ws : List Addr) (kvs : List (Key × V)) : Prop where
  m : MInv nodes es pend
  f : H F = some (.lst (as.map V.ref))
  c : H C = some (.dK kvs)
  w : H W = some (.lst (ws.map V.ref))
  s : SeedAt H sd
  base : But [sd] H0 H
  ea : as.length = es.length
  ev : ∀ (i : Nat) (a : Addr) (e : Ev), as[i]? = some a → es[i]? = some e → EvZ (zz sd F C W) H a e
  wa : ws.length = pend.length
  pv : ∀ (i : Nat) (a : Addr) (p : Pend), ws[i]? = some a → pend[i]? = some p → EvZ (zz sd F C W) H a p.ev
  cnt : CntAt kvs (rsOf nodes es).sends
  kl : kvs.length ≤ es.length
  pl : pend.length ≤ 12 * es.length
section
variable {H0 H H' : Hp} {sd F C W : Addr} {nodes : List Str} {es : List Ev} {as : List Addr} {pend : List Pend} {ws : List Addr} {kvs : List (Key × V)}
theorem But.base (Q : Four H0 sd F C W) (b0 : But [sd] H0 H) (b : But (zz sd F C W) H H') : But [sd] H0 H' := fun a x ha e => by
  refine b a x (fun z => ?_) (b0 a x ha e)
  simp only [zz, List.mem_cons, List.not_mem_nil, or_false] at z ha
  rcases z with z | z | z | z
  · exact ha z
  · rw [z, Q.nF] at e; cases e
  · rw [z, Q.nC] at e; cases e
  · rw [z, Q.nW] at e; cases e
/-- the heap moves, the four as they were (the seed may differ) -/
theorem LInv.move (Q : Four H0 sd F C W) (I : LInv H0 H sd F C W nodes es as pend ws kvs) (b : But (zz sd F C W) H H') (hF : H' F = H F) (hC : H' C = H C) (hW : H' W = H W) (hs : SeedAt H' sd) : LInv H0 H' sd F C W nodes es as pend ws kvs :=
  ⟨I.m, hF.trans I.f, hC.trans I.c, hW.trans I.w, hs, But.base Q I.base b, I.ea, fun i a e h1 h2 => (I.ev i a e h1 h2).but b, I.wa, fun i a p h1 h2 => (I.pv i a p h1 h2).but b, I.cnt, I.kl, I.pl⟩
theorem LInv.new (Q : Four H0 sd F C W) (I : LInv H0 H sd F C W nodes es as pend ws kvs) {T : Addr} {o : HO} (h : H T = none) : LInv H0 (upd H T o) sd F C W nodes es as pend ws kvs :=
  I.move Q (fun a x _ e => (upd_ne (ne_of_none e h)).trans e) (upd_ne (ne_of_none I.f h)) (upd_ne (ne_of_none I.c h)) (upd_ne (ne_of_none I.w h)) (by
    obtain ⟨x, y, z, h1, h2⟩ := I.s
    exact ⟨x, y, z, (upd_ne (ne_of_none h1 h)).trans h1, h2⟩)
theorem LInv.seed (Q : Four H0 sd F C W) (I : LInv H0 H sd F C W nodes es as pend ws kvs) (hs : SeedAt H' sd) (h : ∀ b, b ≠ sd → H' b = H b) : LInv H0 H' sd F C W nodes es as pend ws kvs :=
  I.move Q (fun a x ha e => (h a fun z => ha (by rw [z]; simp)).trans e) (h _ Q.fs) (h _ Q.cs) (h _ Q.ws) hs
/-- a tracked object that is none of the four -/
theorem LInv.apart (Q : Four H0 sd F C W) (I : LInv H0 H sd F C W nodes es as pend ws kvs) {T : Addr} (h : H T = none) : T ∉ zz sd F C W := by
  simp only [zz, List.mem_cons, List.not_mem_nil, or_false]
  rintro (z | z | z | z)
  · obtain ⟨x, y, z', h1, h2⟩ := I.s
    rw [z, h1] at h; cases h
  · rw [z, I.f] at h; cases h
  · rw [z, I.c] at h; cases h
  · rw [z, I.w] at h; cases h
theorem cnt_send {x : Str} {rs : List Str} (h : CntAt kvs (rsOf nodes es).sends) : CntAt (putK kvs (.inr x) (.int (((rsOf nodes es).sends x).length + 1 : Nat))) (rsOf nodes (es ++ [.snd x rs])).sends := fun y => by
  rw [valV_put, rsOf_snoc]
  show _ = if (if y = x then (rsOf nodes es).sends x ++ [es.length] else (rsOf nodes es).sends y).length = 0 then none else some (V.int (((if y = x then (rsOf nodes es).sends x ++ [es.length] else (rsOf nodes es).sends y).length : Nat) : Int))
  by_cases c : y = x
  · subst c
    rw [if_pos rfl, if_pos rfl, if_neg (by simp)]
    simp
  · rw [if_neg (fun z => c (Sum.inr.inj z)), if_neg c]
    exact h y
/-- a send is counted, appended, its opens wait -/
theorem LInv.send {x : Str} {rs : List Str} {a : Addr} {ps : List Addr} (Q : Four H0 sd F C W) (I : LInv H0 H sd F C W nodes es as pend ws kvs) (hx : x ∈ nodes) (hr : recvB nodes x rs = true) (hnd : rs.Nodup) (hl : rs.length ≤ 12) (b : But (zz sd F C W) H H')
    (hF : H' F = some (.lst ((as ++ [a]).map V.ref))) (hC : H' C = some (.dK (putK kvs (.inr x) (.int (((rsOf nodes es).sends x).length + 1 : Nat))))) (hW : H' W = some (.lst ((ws ++ ps).map V.ref))) (hs : SeedAt H' sd)
    (ha : EvZ (zz sd F C W) H' a (.snd x rs)) (hp : ps.length = rs.length) (hpe : ∀ (i : Nat) (p : Addr) (r : Str), ps[i]? = some p → rs[i]? = some r → EvZ (zz sd F C W) H' p (.opn r x (((rsOf nodes es).sends x).length + 1 : Nat))) :
    LInv H0 H' sd F C W nodes (es ++ [.snd x rs]) (as ++ [a]) (pend ++ newPend nodes es x rs) (ws ++ ps) (putK kvs (.inr x) (.int (((rsOf nodes es).sends x).length + 1 : Nat))) := by
  have nl : (newPend nodes es x rs).length = rs.length := List.length_map ..
  refine ⟨I.m.send hx hr hnd, hF, hC, hW, hs, But.base Q I.base b, by simp [I.ea], fun i c e h1 h2 => ?_, by simp [I.wa, nl, hp], fun i c p h1 h2 => ?_, cnt_send I.cnt, ?_, ?_⟩
  · by_cases k : i < es.length
    · rw [List.getElem?_append_left (by rw [I.ea]; exact k)] at h1
      rw [List.getElem?_append_left k] at h2
      exact (I.ev i c e h1 h2).but b
    · rw [List.getElem?_append_right (by rw [I.ea]; omega), I.ea] at h1
      rw [List.getElem?_append_right (by omega)] at h2
      have : i - es.length = 0 := by
        have := (List.getElem?_eq_some_iff.mp h2).1
        simp at this
        omega
      rw [this] at h1 h2
      cases h1
      cases h2
      exact ha
  · by_cases k : i < pend.length
    · rw [List.getElem?_append_left (by rw [I.wa]; exact k)] at h1
      rw [List.getElem?_append_left k] at h2
      exact (I.pv i c p h1 h2).but b
    · rw [List.getElem?_append_right (by rw [I.wa]; omega), I.wa] at h1
      rw [List.getElem?_append_right (by omega)] at h2
      unfold newPend at h2
      rw [List.getElem?_map] at h2
      obtain ⟨r, hr1, rfl⟩ := Option.map_eq_some_iff.mp h2
      exact hpe _ c r h1 hr1
  · have := length_putK kvs (.inr x) (.int (((rsOf nodes es).sends x).length + 1 : Nat))
    have := I.kl
    rw [List.length_append]
    show _ ≤ es.length + 1
    omega
  · have := I.pl
    simp [nl]
    omega
theorem LInv.rev (Q : Four H0 sd F C W) (I : LInv H0 H sd F C W nodes es as pend ws kvs) : LInv H0 (upd H W (.lst (ws.reverse.map V.ref))) sd F C W nodes es as pend.reverse ws.reverse kvs := by
  have b : But (zz sd F C W) H (upd H W (.lst (ws.reverse.map V.ref))) := But.put (by simp [zz])
  refine ⟨I.m.rev, (upd_ne Q.fw).trans I.f, (upd_ne Q.cw).trans I.c, upd_same, ?_, But.base Q I.base b, I.ea, fun i a e h1 h2 => (I.ev i a e h1 h2).but b, by simp [I.wa], fun i a p h1 h2 => ?_, I.cnt, I.kl, by simpa using I.pl⟩
  · obtain ⟨x, y, z, h1, h2⟩ := I.s
    exact ⟨x, y, z, (upd_ne (Ne.symm Q.ws)).trans h1, h2⟩
  · have l1 := (List.getElem?_eq_some_iff.mp h1).1
    have l2 := (List.getElem?_eq_some_iff.mp h2).1
    rw [List.length_reverse] at l1 l2
    rw [List.getElem?_reverse l1] at h1
    rw [List.getElem?_reverse l2] at h2
    rw [I.wa] at h1
    exact (I.pv _ a p h1 h2).but b
theorem LInv.open (Q : Four H0 sd F C W) (I : LInv H0 H sd F C W nodes es as pend ws kvs) (h0 : pend ≠ []) : ∃ (p : Pend) (a : Addr) (ps : List Pend) (wr : List Addr), pend = ps ++ [p] ∧ ws = wr ++ [a] ∧
    LInv H0 (upd (upd H W (.lst (wr.map V.ref))) F (.lst ((as ++ [a]).map V.ref))) sd F C W nodes (es ++ [p.ev]) (as ++ [a]) ps wr kvs := by
  obtain ⟨ps, p, rfl⟩ : ∃ ps p, pend = ps ++ [p] := ⟨pend.dropLast, pend.getLast h0, (List.dropLast_concat_getLast h0).symm⟩
  have hw0 : ws ≠ [] := fun z => by
    have := I.wa
    rw [z] at this
    simp at this
  obtain ⟨wr, a, rfl⟩ : ∃ wr a, ws = wr ++ [a] := ⟨ws.dropLast, ws.getLast hw0, (List.dropLast_concat_getLast hw0).symm⟩
  have hl : wr.length = ps.length := by
    have := I.wa
    simpa using this
  refine ⟨p, a, ps, wr, rfl, rfl, ?_⟩
  have b : But (zz sd F C W) H (upd (upd H W (.lst (wr.map V.ref))) F (.lst ((as ++ [a]).map V.ref))) := (But.put (by simp [zz])).trans (But.put (by simp [zz]))
  have pa : EvZ (zz sd F C W) H a p.ev := I.pv wr.length a p (by simp) (by rw [hl]; simp)
  refine ⟨I.m.open, upd_same, (upd_ne (Ne.symm Q.fc)).trans ((upd_ne Q.cw).trans I.c), (upd_ne (Ne.symm Q.fw)).trans upd_same, ?_, But.base Q I.base b, by simp [I.ea], fun i c e h1 h2 => ?_, hl, fun i c q h1 h2 => ?_, ?_, ?_, ?_⟩
  · obtain ⟨x, y, z, h1, h2⟩ := I.s
    exact ⟨x, y, z, (upd_ne (Ne.symm Q.fs)).trans ((upd_ne (Ne.symm Q.ws)).trans h1), h2⟩
  · by_cases k : i < es.length
    · rw [List.getElem?_append_left (by rw [I.ea]; exact k)] at h1
      rw [List.getElem?_append_left k] at h2
      exact (I.ev i c e h1 h2).but b
    · rw [List.getElem?_append_right (by rw [I.ea]; omega), I.ea] at h1
      rw [List.getElem?_append_right (by omega)] at h2
      have : i - es.length = 0 := by
        have := (List.getElem?_eq_some_iff.mp h2).1
        simp at this
        omega
      rw [this] at h1 h2
      cases h1
      cases h2
      exact pa.but b
  · have l1 := (List.getElem?_eq_some_iff.mp h1).1
    have l2 := (List.getElem?_eq_some_iff.mp h2).1
    exact (I.pv i c q (by rw [List.getElem?_append_left l1]; exact h1) (by rw [List.getElem?_append_left l2]; exact h2)).but b
  · rw [rsOf_snoc]
    exact I.cnt
  · have := I.kl
    simp
    omega
  · have := I.pl
    simp at this ⊢
    omega
end
/-! ### waiting opens as data -/
abbrev pdata (p : Pend) : PyData := .tuple [.str "open", .str p.x, .tuple [.str p.s, .int p.n]]
theorem dp_pend {K : PySem.W.Frag} {H : Hp} {Z : List Addr} : ∀ {ws : List Addr} {pend : List Pend}, ws.length = pend.length → (∀ (i : Nat) (a : Addr) (p : Pend), ws[i]? = some a → pend[i]? = some p → EvZ Z H a p.ev) → DpAll K H (ws.map V.ref) (pend.map pdata)
  | [], [], _, _ => .nil
  | a :: ws, p :: pend, hl, h => by
    obtain ⟨m, _, _, h1, h2⟩ := h 0 a p rfl rfl
    refine .cons (.tup (tpI h1) (.cons (.str _) (.cons (.str _) (.cons (.tup (tpI h2) (.cons (.str _) (.cons (.int _) .nil))) .nil)))) (dp_pend (by simpa using hl) fun i b q k1 k2 => h (i + 1) b q k1 k2)
theorem lay_pend {nodes : List Str} (hn : NodesOk nodes) : ∀ {pend : List Pend}, (∀ p ∈ pend, p.x ∈ nodes ∧ p.s ∈ nodes) → PyData.canLayAll0 (pend.map pdata) = true
  | [], _ => rfl
  | p :: r, h => by
    have h1 := h p List.mem_cons_self
    show (((PyData.canLay0 (.str "open")) && (PyData.canLay0 (.str p.x) && ((PyData.canLay0 (.str p.s) && (true && true)) && true))) && PyData.canLayAll0 (r.map pdata)) = true
    rw [show PyData.canLay0 (.str "open") = true from by decide +kernel, name_strOk (hn.nm _ h1.1), name_strOk (hn.nm _ h1.2), lay_pend hn fun q hq => h q (List.mem_cons_of_mem _ hq)]
    rfl
theorem depth_pend : ∀ (pend : List Pend), PyData.depthAll (pend.map pdata) ≤ 2
  | [] => Nat.zero_le _
  | p :: r => by
    show max 2 (PyData.depthAll (r.map pdata)) ≤ 2
    have := depth_pend r
    omega
theorem shaped_pend {nodes : List Str} {pend : List Pend} (hn : NodesOk nodes) (h : ∀ p ∈ pend, p.x ∈ nodes ∧ p.s ∈ nodes) : SeqAt.shaped (.list (pend.map pdata)) = true := by
  unfold SeqAt.shaped
  rw [show (PyData.list (pend.map pdata)).canLay0 = PyData.canLayAll0 (pend.map pdata) from rfl, lay_pend hn h, show (PyData.list (pend.map pdata)).depth = PyData.depthAll (pend.map pdata) + 1 from rfl, Bool.true_and, decide_eq_true_eq]
  have := depth_pend pend
  omega
theorem pend_in {nodes : List Str} {es : List Ev} {pend : List Pend} (M : MInv nodes es pend) : ∀ p ∈ pend, p.x ∈ nodes ∧ p.s ∈ nodes := fun p hp => by
  obtain ⟨h1, h2, _⟩ := M.good p hp
  obtain ⟨k1, _, _, k4⟩ := sentAt_mem h1
  obtain ⟨_, _, rs, hj, hr⟩ := sends_ok M.ok k4
  rw [recvAt_snd hj] at h2
  exact ⟨(recvB_mem hr h2).1, k1⟩
end KA

set_option Elab.async false
set_option linter.all false
set_option maxRecDepth 100000
set_option maxHeartbeats 16000000
namespace KA
open PySem PySem.Spec PyProof.Rows L2 L2.Dx Kx
section
variable {P : Program} {w : World} {K : PySem.W.Frag} {mg : Str → Option Value} {base : Heap}
def sp__law_seed (K : PySem.W.Frag) : Sp := fun vs H Q _ => ∃ (S : Addr) (ns : List Int) (k : Nat), vs = [.ref S, .int (k : Nat)] ∧ SqL K H S (ns.map V.int) ∧ k ≤ 100 ∧ ∀ H' a, Same H H' → H a = none → SeedAt H' a → Q (.ref a) H'
theorem ok__law_seed (T : Txt K mg) : FnOk P w K mg base CX0 1 T.f__law_seed T.fd__law_seed ["script", "k"] (sp__law_seed K) := by
  refine T.F__law_seed.ok sc__law_seed (fun vs H Q E h => ?_) (fun cdv A outer s H vs Q E hr h => ?_)
  · obtain ⟨S, ns, k, rfl, _⟩ := h
    rfl
  · obtain ⟨S, ns, k, rfl, hS, hk, q⟩ := h
    refine ⟨_, (pss_cons (ps_set (i := 2) sc__law_seed.nd rfl (by first | exact .inl rfl | exact .inr rfl) (pe_ifExp (pt_cmpR op_lt (pv 1) (pe_callB call_len_seq (by rfl) T.m_len PySem.boot_len (pa_cons (pv 0) pa_nil)) (nomark _)) (pe_ix ix_list (pv 0) (pv 1) (fun _ _ => rfl)) pe_int))
    (pss_one (ps_ret (pe_lst (pa_cons (pe_callB (call_max2 rfl) (by rfl) T.m_max (by decide +kernel) (pa_cons pe_int (pa_cons (pe_op op_sub (pv 2) (pe_op op_pow pe_int pe_int)) pa_nil))) (pa_cons (pe_op op_add (pe_op op_mul (pe_op op_add (pe_op op_modN (pv 2) (pe_op op_add (pe_op op_pow pe_int pe_int) pe_int)) pe_int) pe_int) (pv 1)) (pa_cons pe_int pa_nil))))))), ?_⟩
    have go : ∀ c : Int, 0 ≤ (if c - 10 ^ (18 : Int).toNat > 0 then c - 10 ^ (18 : Int).toNat else 0) ∧ 0 ≤ (c.fmod (10 ^ (43 : Int).toNat + 57) + 1) * 1024 + (k : Nat) ∧ ((c.fmod (10 ^ (43 : Int).toNat + 57) + 1) * 1024 + (k : Nat)).natAbs < 2 ^ 200 := fun c => by
      have h1 : 0 ≤ c.fmod (10 ^ (43 : Int).toNat + 57) := by rw [Int.fmod_eq_emod_of_nonneg _ (by decide)]; exact Int.emod_nonneg _ (by decide)
      have h2 : c.fmod (10 ^ (43 : Int).toNat + 57) < 10 ^ (43 : Int).toNat + 57 := by rw [Int.fmod_eq_emod_of_nonneg _ (by decide)]; exact Int.emod_lt_of_pos _ (by decide)
      have h3 : (10 : Int) ^ (43 : Int).toNat + 57 < 2 ^ 150 := by decide
      generalize c.fmod (10 ^ (43 : Int).toNat + 57) = m at h1 h2 ⊢
      refine ⟨by split <;> omega, by omega, by omega⟩
    by_cases hkl : k < ns.length
    · refine ⟨_, rfl, _, rfl, S, _, rfl, .inl hS, (k : Nat), (ns.length : Nat), rfl, by rw [List.length_map], true, ?_, iteT ?_⟩
      · exact congrArg V.bl (decide_eq_true (by omega))
      refine ⟨_, rfl, _, rfl, S, _, _, .int (ns[k]), rfl, rfl, hS, atI_nat (by rw [List.getElem?_map, List.getElem?_eq_getElem hkl]; rfl), ?_⟩
      obtain ⟨g1, g2, g3⟩ := go (ns[k])
      refine ⟨_, rfl, 10, 18, rfl, rfl, ⟨by decide, by decide, by decide⟩, _, _, rfl, rfl, _, _, rfl, ?_⟩
      refine ⟨_, rfl, 10, 43, rfl, rfl, ⟨by decide, by decide, by decide⟩, _, 57, rfl, rfl, _, _, rfl, rfl, by show (10 ^ (43 : Int).toNat + 57 : Int) ≠ 0; decide, ?_⟩
      refine ⟨_, 1, rfl, rfl, _, 1024, rfl, rfl, .inr ⟨by decide, by decide⟩, _, rfl, _, _, rfl, rfl, by show 3 ≤ sizeLine; decide, fun p hp => ?_⟩
      exact q _ p (same_new hp) hp ⟨_, _, 0, upd_same, g1, g2, g3⟩
    · refine ⟨_, rfl, _, rfl, S, _, rfl, .inl hS, (k : Nat), (ns.length : Nat), rfl, by rw [List.length_map], false, ?_, iteF ?_⟩
      · exact congrArg V.bl (decide_eq_false (by omega))
      obtain ⟨g1, g2, g3⟩ := go 0
      refine ⟨.int 0, rfl, 10, 18, rfl, rfl, ⟨by decide, by decide, by decide⟩, _, _, rfl, rfl, _, _, rfl, ?_⟩
      refine ⟨.int 0, rfl, 10, 43, rfl, rfl, ⟨by decide, by decide, by decide⟩, _, 57, rfl, rfl, _, _, rfl, rfl, by show (10 ^ (43 : Int).toNat + 57 : Int) ≠ 0; decide, ?_⟩
      refine ⟨_, 1, rfl, rfl, _, 1024, rfl, rfl, .inr ⟨by decide, by decide⟩, _, rfl, _, _, rfl, rfl, by show 3 ≤ sizeLine; decide, fun p hp => ?_⟩
      exact q _ p (same_new hp) hp ⟨_, _, 0, upd_same, g1, g2, g3⟩
def sp__law_next : Sp := fun vs H Q _ => ∃ (a : Addr) (n : Int), vs = [.ref a, .int n] ∧ SeedAt H a ∧ 1 ≤ n ∧ n < 1073741824 ∧ ∀ H' r, SeedAt H' a → (∀ b, b ≠ a → H' b = H b) → 0 ≤ r → r < n → Q (.int r) H'
theorem ok__law_next (T : Txt K mg) : FnOk P w K mg base CX0 1 T.f__law_next T.fd__law_next ["seed", "size"] sp__law_next := by
  refine T.F__law_next.ok sc__law_next (fun vs H Q E h => ?_) (fun cdv A outer s H vs Q E hr h => ?_)
  · obtain ⟨a, n, rfl, _⟩ := h
    rfl
  · obtain ⟨a, n, rfl, ⟨x, y, z, ha, hx, hy, hy2⟩, hn1, hn2, q⟩ := h
    refine ⟨_, (pss_cons (ps_if (pt_cmpR op_gt (pe_ix ix_list (pv 0) pe_int (fun _ _ => rfl)) pe_int (nomark _))
      (pss_cons (ps_set (i := 2) sc__law_next.nd rfl (by first | exact .inl rfl | exact .inr rfl) (pe_op op_modN (pe_ix ix_list (pv 0) pe_int (fun _ _ => rfl)) (pv 1)))
      (pss_cons (ps_asg (pe_op op_fdivN (pe_ix ix_list (pv 0) pe_int (fun _ _ => rfl)) (pv 1)) (pg_sub (pv 0) pe_int set_list))
      (pss_one (ps_ret (pv 2)))))
      pss_nil)
    (pss_cons (ps_asg (pe_op op_add (pe_ix ix_list (pv 0) pe_int (fun _ _ => rfl)) pe_int) (pg_sub (pv 0) pe_int set_list))
    (pss_cons (ps_set (i := 3) sc__law_next.nd rfl (by first | exact .inl rfl | exact .inr rfl) (pe_op op_modN (pe_op op_add (pe_op op_mulW (pe_ix ix_list (pv 0) pe_int (fun _ _ => rfl)) (pe_ix ix_list (pv 0) pe_int (fun _ _ => rfl))) (pe_op op_mul pe_int (pe_ix ix_list (pv 0) pe_int (fun _ _ => rfl)))) (pe_op op_add (pe_op op_pow pe_int pe_int) pe_int)))
    (pss_cons (ps_set (i := 3) sc__law_next.nd rfl (by first | exact .inl rfl | exact .inr rfl) (pe_op op_modN (pe_op op_add (pe_op op_powW (pv 3) pe_int) pe_int) (pe_op op_add (pe_op op_pow pe_int pe_int) pe_int)))
    (pss_one (ps_ret (pe_op op_modN (pe_op op_fdivN (pv 3) pe_int) (pv 1)))))))), ?_⟩
    have g0 : SqL K H a [.int x, .int y, .int z] := .inl (.inl ha)
    refine ⟨.ref a, rfl, a, _, 0, .int x, rfl, rfl, g0, atI_nat (j := 0) rfl, x, 0, rfl, rfl, _, rfl, ite2 (fun e => ?_) (fun e => ?_)⟩
    · have e1 : 0 < x := of_decide_eq_true e
      refine ⟨.ref a, rfl, a, _, 0, .int x, rfl, rfl, g0, atI_nat (j := 0) rfl, .int n, rfl, x, n, rfl, rfl, by omega, ?_⟩
      refine ⟨.ref a, rfl, a, _, 0, .int x, rfl, rfl, g0, atI_nat (j := 0) rfl, .int n, rfl, x, n, rfl, rfl, ⟨by omega, by omega⟩, ?_⟩
      refine ⟨.ref a, rfl, a, _, 0, 0, rfl, rfl, ha, rfl, ?_⟩
      refine ⟨_, rfl, q _ _ ⟨x.fdiv n, y, z, upd_same, ?_, hy, hy2⟩ (fun b hb => upd_ne hb) ?_ ?_⟩
      · rw [Int.fdiv_eq_ediv_of_nonneg _ (by omega)]; exact Int.ediv_nonneg hx (by omega)
      · rw [Int.fmod_eq_emod_of_nonneg _ (by omega)]; exact Int.emod_nonneg _ (by omega)
      · rw [Int.fmod_eq_emod_of_nonneg _ (by omega)]; exact Int.emod_lt_of_pos _ (by omega)
    · refine ⟨.ref a, rfl, a, _, 2, .int z, rfl, rfl, g0, atI_nat (j := 2) rfl, z, 1, rfl, rfl, ?_⟩
      refine ⟨.ref a, rfl, a, _, 2, 2, rfl, rfl, ha, rfl, ?_⟩
      have ha1 : (upd H a (.lst [.int x, .int y, .int (z + 1)])) a = some (.lst [.int x, .int y, .int (z + 1)]) := upd_same
      have g1 : SqL K (upd H a (.lst [.int x, .int y, .int (z + 1)])) a [.int x, .int y, .int (z + 1)] := .inl (.inl ha1)
      refine ⟨.ref a, rfl, a, _, 1, .int y, rfl, rfl, g1, atI_nat (j := 1) rfl, .ref a, rfl, a, _, 1, .int y, rfl, rfl, g1, atI_nat (j := 1) rfl, y, y, rfl, rfl, wide_mul hy2 hy2 (by decide) (by decide) (by decide), ?_⟩
      refine ⟨.ref a, rfl, a, _, 2, .int (z + 1), rfl, rfl, g1, atI_nat (j := 2) rfl, 982451653, z + 1, rfl, rfl, .inl ⟨by decide, by decide⟩, ?_⟩
      refine ⟨y * y, 982451653 * (z + 1), rfl, rfl, ?_⟩
      refine ⟨10, 45, rfl, rfl, ⟨by decide, by decide, by decide⟩, 10 ^ (45 : Int).toNat, 9, rfl, rfl, ?_⟩
      refine ⟨_, _, rfl, rfl, by show (10 ^ (45 : Int).toNat + 9 : Int) ≠ 0; decide, ?_⟩
      have hst2 : ((y * y + 982451653 * (z + 1)).fmod (10 ^ (45 : Int).toNat + 9)).natAbs < 2 ^ 160 := by
        have h9 : (10 : Int) ^ (45 : Int).toNat + 9 < 2 ^ 160 := by decide
        have h1 : 0 ≤ (y * y + 982451653 * (z + 1)).fmod (10 ^ (45 : Int).toNat + 9) := by
          rw [Int.fmod_eq_emod_of_nonneg _ (by decide)]; exact Int.emod_nonneg _ (by decide)
        have h2 : (y * y + 982451653 * (z + 1)).fmod (10 ^ (45 : Int).toNat + 9) < 10 ^ (45 : Int).toNat + 9 := by
          rw [Int.fmod_eq_emod_of_nonneg _ (by decide)]; exact Int.emod_lt_of_pos _ (by decide)
        omega
      refine ⟨.int ((y * y + 982451653 * (z + 1)).fmod (10 ^ (45 : Int).toNat + 9)), rfl, _, 3, rfl, rfl, wide_pow (by decide) hst2 (by decide) (by decide), _, 776531419, rfl, rfl, ?_⟩
      refine ⟨10, 44, rfl, rfl, ⟨by decide, by decide, by decide⟩, 10 ^ (44 : Int).toNat, 31, rfl, rfl, ?_⟩
      refine ⟨_, _, rfl, rfl, by show (10 ^ (44 : Int).toNat + 31 : Int) ≠ 0; decide, ?_⟩
      refine ⟨_, rfl, _, 524287, rfl, rfl, ⟨by decide, by decide⟩, .int n, rfl, _, n, rfl, rfl, by omega, ?_⟩
      refine q _ _ ⟨x, y, z + 1, upd_same, hx, hy, hy2⟩ (fun b hb => upd_ne hb) ?_ ?_
      · rw [Int.fmod_eq_emod_of_nonneg _ (by omega)]; exact Int.emod_nonneg _ (by omega)
      · rw [Int.fmod_eq_emod_of_nonneg _ (by omega)]; exact Int.emod_lt_of_pos _ (by omega)
end
end KA

set_option Elab.async false
set_option linter.all false
set_option maxRecDepth 100000
set_option maxHeartbeats 4000000
namespace KA
open PySem PySem.Spec PyProof.Rows L2 L2.Dx Kx
/-- [one for one in nodes if one != x] -/
theorem lc_others {K : PySem.W.Frag} {σ : L2.St} {H : Hp} {N D : Addr} {nodes : List Str} {x : Str} {j c : Nat} {Qd : Hp → Prop} (hj : j < σ.length) (hcj : j ≠ c) (hc : σ[c]? = some (some (.str x))) (hN : H N = some (.lst (nodes.map V.str))) (hl : nodes.length ≤ 1000) (hD : H D = none)
    (q : ∀ H' : Hp, (∀ b, b ≠ D → H' b = H b) → H' D = some (.lst ((nodes.filter fun y => decide (y ≠ x)).map V.str)) → Qd H') :
    ∃ W : Nat → Nat → Hp → Prop, (∃ m, W 0 m (upd H D (.lst []))) ∧ ∀ i m H, W i m H →
      ((Itl K N).stop i H ∧ Qd H) ∨ ((Itl K N).go i H ∧ ∃ Nx : Hp → Prop, (∀ H', Nx H' → ∃ m', m' < m ∧ W (i + 1) m' H') ∧ ∀ y H', (Itl K N).yld i H y H' → gName j y (wipe σ [j]) H' fun σ2 H2 => wipe σ2 [j] = wipe σ [j] ∧ tTest (tOp rNe (tVar j) (tVar c)) σ2 H2 fun b H3 =>
        if b = true then tVar j σ2 H3 fun y H4 => ∃ acc, H4 D = some (.lst acc) ∧ acc.length < sizeLine ∧ Nx (upd H4 D (.lst (acc ++ [y]))) else Nx H3) := by
  have nND : N ≠ D := ne_of_none hN hD
  refine lc_list (xs := nodes.map V.str) (fun i H' => (∀ b, b ≠ D → H' b = H b) ∧ H' D = some (.lst (((nodes.take i).filter fun y => decide (y ≠ x)).map V.str))) ⟨fun b hb => upd_ne hb, upd_same⟩ (fun i H' _ ⟨h1, _⟩ => ltI ((h1 _ nND).trans hN)) ?_ ?_
  · rintro i v H' hx ⟨h1, h2⟩
    rw [List.getElem?_map] at hx
    obtain ⟨y, hy, rfl⟩ := Option.map_eq_some_iff.mp hx
    have s1 : ((wipe σ [j]).set j (some (V.str y)))[j]? = some (some (V.str y)) := by
      rw [List.getElem?_set_self]
      rw [wipe_length]
      exact hj
    have s2 : ((wipe σ [j]).set j (some (V.str y)))[c]? = some (some (V.str x)) := by
      rw [List.getElem?_set_ne hcj, wipe_out (by simpa using Ne.symm hcj)]
      exact hc
    refine ⟨by simp [wipe, List.set_set], _, s1, _, s2, rfl, _, rfl, ?_⟩
    by_cases e : y = x
    · rw [show (!decide (V.str y = V.str x)) = false by rw [e]; simp]
      refine iteF ⟨h1, ?_⟩
      rw [h2, take_snoc hy, List.filter_append]
      simp [e]
    · rw [show (!decide (V.str y = V.str x)) = true by simp [e]]
      refine iteT ⟨_, s1, _, h2, ?_, fun b hb => (upd_ne hb).trans (h1 b hb), ?_⟩
      · rw [List.length_map]
        exact small1000 (Nat.le_trans (List.length_filter_le _ _) (Nat.le_trans (List.length_take_le' _ _) hl))
      · rw [upd_same, take_snoc hy, List.filter_append]
        simp [e]
  · rintro H' ⟨h1, h2⟩
    rw [List.length_map, List.take_length] at h2
    exact q H' h1 h2
/-- the receivers drawn: all others, the first, the last two -/
def drawn (r : Nat) (l : List Str) : List Str := if r = 0 then l else if r = 1 then l.take 1 else l.drop (l.length - 2)
theorem drawn_sub (r : Nat) (l : List Str) : (drawn r l).Sublist l := by
  unfold drawn
  split
  · exact List.Sublist.refl l
  · split
    · exact List.take_sublist _ _
    · exact List.drop_sublist _ _
theorem drawn_ne {r : Nat} {l : List Str} (h : l ≠ []) : drawn r l ≠ [] := by
  have h0 : 0 < l.length := List.length_pos_iff.mpr h
  intro z
  have : (drawn r l).length = 0 := by rw [z]; rfl
  unfold drawn at this
  split at this
  · omega
  · split at this
    · rw [List.length_take] at this
      omega
    · rw [List.length_drop] at this
      omega
theorem others_ne {nodes : List Str} {x : Str} (hn : NodesOk nodes) : (nodes.filter fun y => decide (y ≠ x)) ≠ [] := by
  have hlo := hn.lo
  have nd := hn.nodup
  obtain ⟨a, b, r, rfl⟩ : ∃ a b r, nodes = a :: b :: r := by
    match nodes, hlo with
    | a :: b :: r, _ => exact ⟨a, b, r, rfl⟩
  have hab : a ≠ b := by
    intro e
    subst e
    simp at nd
  by_cases e : a = x
  · have : b ∈ ((a :: b :: r).filter fun y => decide (y ≠ x)) := by
      rw [List.mem_filter]
      exact ⟨by simp, by rw [decide_eq_true_eq]; rw [← e]; exact Ne.symm hab⟩
    exact List.ne_nil_of_mem this
  · have : a ∈ ((a :: b :: r).filter fun y => decide (y ≠ x)) := by
      rw [List.mem_filter]
      exact ⟨by simp, by rw [decide_eq_true_eq]; exact e⟩
    exact List.ne_nil_of_mem this
theorem cut_take1 (xs : List V) : cutV xs none (some 1) = xs.take 1 := by
  unfold cutV
  rw [HT.sIx_none, show HT.sIx xs.length xs.length (some 1) = min 1 xs.length from HT.sIx_nat xs.length xs.length 1]
  simp [List.take_take]
theorem cut_last2 (xs : List V) : cutV xs (some (-2)) none = xs.drop (xs.length - 2) := by
  unfold cutV
  rw [HT.sIx_none, show HT.sIx xs.length 0 (some (-2)) = xs.length - 2 by
    show (if (-2 : Int) < 0 then ((-2 : Int) + (xs.length : Int)).toNat else min (-2 : Int).toNat xs.length) = _
    rw [if_pos (by decide)]
    omega]
  refine List.take_of_length_le ?_
  rw [List.length_drop]
  omega
end KA

set_option Elab.async false
set_option linter.all false
set_option maxRecDepth 100000
set_option maxHeartbeats 4000000
namespace L2.Dx
open PySem PySem.Spec PyProof.Rows L2
/-- a list comprehension over lo, lo + 1, .. -/
theorem lc_rng {lo : Int} {n : Nat} {g : TG} {tt : TT} {te : TE} {vs : List Nat} {σ : St} {H1 : Hp} {D : Addr} {Qd : Hp → Prop} (Pv : Nat → Hp → Prop) (h0 : Pv 0 (upd H1 D (.lst [])))
    (hs : ∀ (i : Nat) H, i < n → Pv i H → g (.int (lo + i)) (wipe σ vs) H fun σ2 H2 => wipe σ2 vs = wipe σ vs ∧ tt σ2 H2 fun b H3 =>
      if b = true then te σ2 H3 fun y H4 => ∃ acc, H4 D = some (.lst acc) ∧ acc.length < sizeLine ∧ Pv (i + 1) (upd H4 D (.lst (acc ++ [y]))) else Pv (i + 1) H3) (hd : ∀ H, Pv n H → Qd H) :
    ∃ W : Nat → Nat → Hp → Prop, (∃ m, W 0 m (upd H1 D (.lst []))) ∧ ∀ i m H, W i m H →
      ((Itr lo n).stop i H ∧ Qd H) ∨ ((Itr lo n).go i H ∧ ∃ Nx : Hp → Prop, (∀ H', Nx H' → ∃ m', m' < m ∧ W (i + 1) m' H') ∧ ∀ v H', (Itr lo n).yld i H v H' → g v (wipe σ vs) H' fun σ2 H2 => wipe σ2 vs = wipe σ vs ∧ tt σ2 H2 fun b H3 =>
        if b = true then te σ2 H3 fun y H4 => ∃ acc, H4 D = some (.lst acc) ∧ acc.length < sizeLine ∧ Nx (upd H4 D (.lst (acc ++ [y]))) else Nx H3) := by
  refine ⟨fun i m H => m = n - i ∧ i ≤ n ∧ Pv i H, ⟨_, rfl, Nat.zero_le _, h0⟩, fun i m H ⟨em, hi, p⟩ => ?_⟩
  subst em
  rcases Nat.lt_or_ge i n with lt | ge
  · refine .inr ⟨lt, Pv (i + 1), fun H' p' => ⟨_, by omega, rfl, lt, p'⟩, fun v H' ⟨e, ev⟩ => ?_⟩
    subst e ev
    exact hs i _ lt p
  · have e : n = i := Nat.le_antisymm ge hi
    subst e
    exact .inl ⟨Nat.le_refl _, hd H p⟩
theorem seqIx_nat {i n : Nat} (h : i < n) : seqIndex? ((i : Nat) : Int) n = some i := by
  unfold seqIndex?
  simp only [show ¬ ((i : Nat) : Int) < 0 by omega, if_false]
  rw [if_pos (by simp; omega)]
  simp
theorem perm_erase {α : Type} : ∀ {l : List α} {i : Nat} {y : α}, l[i]? = some y → (y :: l.eraseIdx i).Perm l
  | a :: l, 0, y, h => by cases h; exact .refl _
  | a :: l, i + 1, y, h => (List.Perm.swap a y (l.eraseIdx i)).trans ((perm_erase (l := l) (i := i) h).cons a)
theorem sortedS_pw : ∀ {ys : List Str}, sortedS ys = true → ys.Nodup → ys.Pairwise fun a b => a.cps.toList < b.cps.toList
  | [], _, _ => .nil
  | x :: r, h, nd => by
    have go : ∀ (r : List Str) (x : Str), risingS x r = true → (x :: r).Nodup → (x :: r).Pairwise fun a b => a.cps.toList < b.cps.toList := by
      intro r
      induction r with
      | nil => exact fun x _ _ => List.pairwise_singleton ..
      | cons y t ih =>
        intro x h nd
        unfold risingS at h
        rw [Bool.and_eq_true, ltCps_eq] at h
        obtain ⟨h1, h2⟩ := h
        have ne : x ≠ y := fun z => by
          rw [z] at nd
          exact (List.nodup_cons.mp nd).1 List.mem_cons_self
        have lt : x.cps.toList < y.cps.toList := by
          have h1 : ¬ y.cps.toList < x.cps.toList := by simpa using h1
          rcases Nat.lt_or_ge 0 1 with _ | _
          · by_cases c : x.cps.toList < y.cps.toList
            · exact c
            · exfalso
              apply ne
              have := List.le_antisymm (List.not_lt.mp h1) (List.not_lt.mp c)
              obtain ⟨⟨a⟩⟩ := x
              obtain ⟨⟨b⟩⟩ := y
              simp only at this
              rw [this]
          · omega
        have p := ih y h2 (List.nodup_cons.mp nd).2
        refine .cons (fun z hz => ?_) p
        rcases List.mem_cons.mp hz with e | hz
        · rw [e]; exact lt
        · exact List.lt_trans lt ((List.pairwise_cons.mp p).1 z hz)
    exact go r x h nd
end L2.Dx
namespace KA
open PySem PySem.Spec PyProof.Rows L2 L2.Dx Kx
def pool : List Str := ["a", "b", "c", "d", "z", "ab", "send", "open", "run", "none", "node", "abcdefgh", "zzzzzzzz", "y"]
theorem pool_nodup : pool.Nodup := by decide +kernel
theorem pool_name : ∀ z ∈ pool, NameOk z := by
  have k : pool.all (fun z => decide (1 ≤ z.length) && decide (z.length ≤ 8) && z.cps.toList.all (fun c => decide (97 ≤ c ∧ c ≤ 122))) = true := by decide +kernel
  rw [List.all_eq_true] at k
  intro z hz
  have := k z hz
  simp only [Bool.and_eq_true, decide_eq_true_eq, List.all_eq_true] at this
  exact ⟨this.1.1, this.1.2, this.2⟩
theorem nodesOk_pool {ys gs ps : List Str} (h : (gs ++ ps).Perm pool) (hp : ys.Perm gs) (hs : sortedS ys = true) (h2 : 2 ≤ gs.length) (h12 : gs.length ≤ 12) : NodesOk ys ∧ ∀ z ∈ ys, z ∈ pool := by
  have nd : gs.Nodup := (List.nodup_append.mp (h.nodup_iff.mpr pool_nodup)).1
  have mem : ∀ z ∈ ys, z ∈ pool := fun z hz => h.subset (List.mem_append_left _ (hp.subset hz))
  exact ⟨⟨by rw [hp.length_eq]; exact h2, by rw [hp.length_eq]; exact h12, fun z hz => pool_name z (mem z hz), sortedS_pw hs (hp.nodup_iff.mpr nd)⟩, mem⟩
end KA
theorem L2.Dx.map_erase {α β : Type} (f : α → β) : ∀ (l : List α) (i : Nat), (l.map f).eraseIdx i = (l.eraseIdx i).map f
  | [], _ => rfl
  | _ :: _, 0 => rfl
  | a :: l, i + 1 => congrArg (f a :: ·) (L2.Dx.map_erase f l i)

set_option Elab.async false
set_option linter.all false
set_option maxRecDepth 100000
set_option maxHeartbeats 16000000
namespace KA
open PySem PySem.Spec PyProof.Rows L2 L2.Dx Kx
section
variable {P : Program} {w : World} {K : PySem.W.Frag} {mg : Str → Option Value} {base : Heap}
def sp__law_nodes : Sp := fun vs H Q _ => ∃ (sd : Addr) (most : Nat), vs = [.ref sd, .int (most : Nat)] ∧ SeedAt H sd ∧ 2 ≤ most ∧ most ≤ 12 ∧
  ∀ (H' : Hp) (R : Addr) (nodes : List Str), But [sd] H H' → SeedAt H' sd → H R = none → H' R = some (.lst (nodes.map V.str)) → NodesOk nodes → (∀ z ∈ nodes, z ∈ pool) → nodes.length ≤ most → R ≠ sd → Q (.ref R) H'
theorem ok__law_nodes (T : Txt K mg) : FnOk P w K mg base CX0 2 T.f__law_nodes T.fd__law_nodes ["seed", "most"] sp__law_nodes := by
  refine T.F__law_nodes.ok sc__law_nodes (fun vs H Q E h => ?_) (fun cdv A outer s H vs Q E hr h => ?_)
  · obtain ⟨sd, most, rfl, _⟩ := h
    rfl
  · obtain ⟨sd, most, rfl, hS, h2, h12, q⟩ := h
    refine ⟨_, (pss_cons (ps_set (i := 2) sc__law_nodes.nd rfl (by first | exact .inl rfl | exact .inr rfl) (pe_lst (pa_cons pe_str (pa_cons pe_str (pa_cons pe_str (pa_cons pe_str (pa_cons pe_str (pa_cons pe_str (pa_cons pe_str (pa_cons pe_str (pa_cons pe_str (pa_cons pe_str (pa_cons pe_str (pa_cons pe_str (pa_cons pe_str (pa_cons pe_str pa_nil))))))))))))))))
    (pss_one (ps_ret (pe_callB cr_sortedS (by rfl) T.m_sorted (by decide +kernel) (pa_cons (pe_lc (own := [("turn", 3)]) rfl sc__law_nodes.nd (pi_range1 (by rfl) T.m_range (pa_cons (pe_op op_add pe_int (pe_call (ok__law_next T) (hr.mono (by decide)) rfl T.M__law_next T.F__law_next.kp (b__law_next T) .nil pass0 (pa_cons (pv 0) (pa_cons (pe_op op_sub (pv 1) pe_int) pa_nil)))) pa_nil)) (blkOk_by (N := ["seed", "most", "pool", "turn"]) (sc := defScope s__law_nodes) (by decide +kernel)) (fun _ _ _ _ _ => (pg_name (i := 3) sc__law_nodes.nd rfl (by first | exact .inl rfl | exact .inr rfl))) (fun _ _ _ _ _ => pts_nil) (fun _ _ _ _ _ => (pe_bmK (K := K) rfl PySem.F.plainAttrs_list PySem.F.slot_list_pop PySem.F.type_list_pop mt_popAt (pv 2) (pa_cons (pe_call (ok__law_next T) (hr.mono (by decide)) (by rfl) T.M__law_next T.F__law_next.kp (b__law_next T) .nil pass0 (pa_cons (pv 0) (pa_cons (pe_callB (call_len_seqK (K := K) rfl) (by rfl) T.m_len PySem.boot_len (pa_cons (pv 2) pa_nil)) pa_nil))) pa_nil)))) pa_nil))))), ?_⟩
    refine ⟨by show 14 ≤ sizeLine; decide, fun A hA => ?_⟩
    have Asd : A ≠ sd := fun z => by
      obtain ⟨x, y, z', h1, _⟩ := hS
      rw [z, h1] at hA; cases hA
    have b1 : But [sd] H (upd H A (.lst (pool.map V.str))) := But.same (same_new hA)
    have S1 : SeedAt (upd H A (.lst (pool.map V.str))) sd := by
      obtain ⟨x, y, z, h1, h2⟩ := hS
      exact ⟨x, y, z, (upd_ne (Ne.symm Asd)).trans h1, h2⟩
    have A1 : (upd H A (.lst (pool.map V.str))) A = some (.lst (pool.map V.str)) := upd_same
    refine ⟨_, rfl, _, rfl, most, 1, rfl, rfl, sd, _, rfl, S1, by omega, by omega, fun H2 r hs2 hb2 hr0 hr1 => ⟨2, r, rfl, rfl, _, rfl, by omega, by omega, fun D hD => ?_⟩⟩
    obtain ⟨nr, rfl⟩ : ∃ nr : Nat, r = (nr : Int) := ⟨r.toNat, by omega⟩
    have A2 := (hb2 A Asd).trans A1
    have AD : A ≠ D := ne_of_none A2 hD
    have sD : D ≠ sd := fun z => by
      obtain ⟨x, y, z', h1, _⟩ := hs2
      rw [z, h1] at hD; cases hD
    have D0 : H D = none := by
      cases e : H D with
      | none => rfl
      | some o =>
        have e1 : H2 D = some o := (hb2 D sD).trans (b1 D o (by simpa using sD) e)
        rw [hD] at e1
        cases e1
    have b2 : But [sd] H H2 := fun a x ha e => (hb2 a (by simpa using ha)).trans (b1 a x ha e)
    clear hb2 b1 S1 A1
    refine lc_rng (fun i H' => SeedAt H' sd ∧ But [sd] H H' ∧ ∃ gs ps : List Str, (gs ++ ps).Perm pool ∧ gs.length = i ∧ H' D = some (.lst (gs.map V.str)) ∧ H' A = some (.lst (ps.map V.str))) ?_ ?_ ?_
    · refine ⟨?_, b2.trans (But.same (same_new hD)), [], pool, .refl _, rfl, upd_same, (upd_ne AD).trans A2⟩
      obtain ⟨x, y, z, h1, h2⟩ := hs2
      exact ⟨x, y, z, (upd_ne (Ne.symm sD)).trans h1, h2⟩
    · rintro i H3 hi ⟨S3, b3, gs, ps, hp, hgl, hD3, hA3⟩
      refine ⟨by simp [wipe, List.set_set], ?_⟩
      dsimp only [tYes]
      rw [if_pos rfl]
      have hpl : ps.length = 14 - i := by
        have := hp.length_eq
        rw [List.length_append, hgl] at this
        have e : pool.length = 14 := rfl
        omega
      refine ⟨.ref A, rfl, .inl ⟨rfl, _, .inl (.inl hA3)⟩, .ref sd, rfl, .ref A, rfl, A, _, rfl, .inl (ltI hA3), sd, _, rfl, S3, by rw [List.length_map]; omega, by rw [List.length_map]; omega, fun H4 r4 S4 hb4 h40 h41 => ?_⟩
      rw [List.length_map] at h41
      obtain ⟨n4, rfl⟩ : ∃ nr : Nat, r4 = (nr : Int) := ⟨r4.toNat, by omega⟩
      have hA4 := (hb4 A Asd).trans hA3
      have hD4 := (hb4 D sD).trans hD3
      have hlt : n4 < ps.length := by omega
      have hy : ps[n4]? = some ps[n4] := List.getElem?_eq_getElem hlt
      refine ⟨A, _, _, n4, .str ps[n4], rfl, rfl, hA4, by omega, by omega, by rw [List.length_map]; exact seqIx_nat hlt, by rw [List.getElem?_map, hy]; rfl, ?_⟩
      refine ⟨gs.map V.str, (upd_ne (Ne.symm AD)).trans hD4, by rw [List.length_map]; exact small1000 (by omega), ?_, ?_, gs ++ [ps[n4]], ps.eraseIdx n4, ?_, by simp [hgl], by rw [upd_same, List.map_append]; rfl, ?_⟩
      · obtain ⟨x, y, z, h1, h2⟩ := S4
        exact ⟨x, y, z, (upd_ne (Ne.symm sD)).trans ((upd_ne (Ne.symm Asd)).trans h1), h2⟩
      · intro a x ha e
        have e3 := b3 a x ha e
        have aA : a ≠ A := ne_of_none e hA
        have aD : a ≠ D := ne_of_none e D0
        exact (upd_ne aD).trans ((upd_ne aA).trans ((hb4 a (by simpa using ha)).trans e3))
      · refine .trans ?_ hp
        rw [List.append_assoc]
        exact (perm_erase hy).append_left gs
      · refine (upd_ne AD).trans ?_
        rw [upd_same, map_erase]
    · rintro H3 ⟨S3, b3, gs, ps, hp, hgl, hD3, hA3⟩
      refine ⟨D, gs, rfl, ltI hD3, by omega, fun ys p hys hso hp3 => ?_⟩
      have p0 : H p = none := by
        cases e : H p with
        | none => rfl
        | some o =>
          have psd : p ≠ sd := fun z => by
            obtain ⟨x, y, z', h1, _⟩ := S3
            rw [z, h1] at hp3; cases hp3
          have e1 := b3 p o (by simpa using psd) e
          rw [hp3] at e1
          cases e1
      have psd : p ≠ sd := fun z => by
        obtain ⟨x, y, z', h1, _⟩ := S3
        rw [z, h1] at hp3; cases hp3
      obtain ⟨ok, mem⟩ := nodesOk_pool hp hys hso (by omega) (by omega)
      refine q _ p ys (b3.trans (But.same (same_new hp3))) ?_ p0 upd_same ok mem (by rw [hys.length_eq]; omega) psd
      obtain ⟨x, y, z, h1, h2⟩ := S3
      exact ⟨x, y, z, (upd_ne (Ne.symm psd)).trans h1, h2⟩
end
end KA

set_option Elab.async false
set_option linter.all false
set_option maxRecDepth 100000
set_option maxHeartbeats 4000000
namespace KA
open PySem PySem.Spec PyProof.Rows L2 L2.Dx Kx
/-- a waiting entry none of whose parts is at Z -/
def PvZ (Z : List Addr) (H : Hp) (a : Addr) (x s : Str) (n : Int) : Prop := ∃ m, a ∉ Z ∧ m ∉ Z ∧ H a = some (.tup [.str x, .ref m]) ∧ H m = some (.tup [.str s, .int n])
theorem PvZ.but {Z : List Addr} {H H' : Hp} {a : Addr} {x s : Str} {n : Int} (h : PvZ Z H a x s n) (b : But Z H H') : PvZ Z H' a x s n := h.elim fun m ⟨k1, k2, k3, k4⟩ => ⟨m, k1, k2, b _ _ k1 k3, b _ _ k2 k4⟩
theorem PvZ.same {Z : List Addr} {H H' : Hp} {a : Addr} {x s : Str} {n : Int} (h : PvZ Z H a x s n) (b : Same H H') : PvZ Z H' a x s n := h.but (But.same b)
theorem PvZ.put {Z : List Addr} {H : Hp} {a D : Addr} {x s : Str} {n : Int} {xs : List V} {o : HO} (h : PvZ Z H a x s n) (hd : H D = some (.lst xs)) : PvZ Z (upd H D o) a x s n := by
  obtain ⟨m, k1, k2, k3, k4⟩ := h
  exact ⟨m, k1, k2, (upd_ne (ne_of k3 hd (by intro z; cases z))).trans k3, (upd_ne (ne_of k4 hd (by intro z; cases z))).trans k4⟩
theorem MInv.perm {nodes : List Str} {es : List Ev} {ps qs : List Pend} (M : MInv nodes es ps) (h : ps.Perm qs) : MInv nodes es qs :=
  ⟨M.ok, (h.map _).nodup_iff.mp M.nd, fun p hp => M.good p (h.symm.subset hp)⟩
theorem MInv.pop {nodes : List Str} {es : List Ev} {ps : List Pend} {p : Pend} {k : Nat} (M : MInv nodes es ps) (h : ps[k]? = some p) : MInv nodes (es ++ [p.ev]) (ps.eraseIdx k) :=
  (M.perm ((perm_erase h).symm.trans (List.perm_append_comm (l₁ := [p]) (l₂ := ps.eraseIdx k)))).open
/-- the waiting ones of a run that grows -/
structure LR (H0 H : Hp) (sd F C W : Addr) (nodes : List Str) (es : List Ev) (as : List Addr) (pend : List Pend) (ws : List Addr) (kvs : List (Key × V)) : Prop where
  m : MInv nodes es pend
  f : H F = some (.lst (as.map V.ref))
  c : H C = some (.dK kvs)
  w : H W = some (.lst (ws.map V.ref))
  s : SeedAt H sd
  base : But [sd] H0 H
  ea : as.length = es.length
  ev : ∀ (i : Nat) (a : Addr) (e : Ev), as[i]? = some a → es[i]? = some e → EvZ (zz sd F C W) H a e
  wa : ws.length = pend.length
  pv : ∀ (i : Nat) (a : Addr) (p : Pend), ws[i]? = some a → pend[i]? = some p → PvZ (zz sd F C W) H a p.x p.s p.n
  cnt : CntAt kvs (rsOf nodes es).sends
  kl : kvs.length ≤ es.length
  pl : pend.length ≤ 12 * es.length
section
variable {H0 H H' : Hp} {sd F C W : Addr} {nodes : List Str} {es : List Ev} {as : List Addr} {pend : List Pend} {ws : List Addr} {kvs : List (Key × V)}
/-- the heap moves, the four as they were (the seed may differ) -/
theorem LR.move (Q : Four H0 sd F C W) (I : LR H0 H sd F C W nodes es as pend ws kvs) (b : But (zz sd F C W) H H') (hF : H' F = H F) (hC : H' C = H C) (hW : H' W = H W) (hs : SeedAt H' sd) : LR H0 H' sd F C W nodes es as pend ws kvs :=
  ⟨I.m, hF.trans I.f, hC.trans I.c, hW.trans I.w, hs, But.base Q I.base b, I.ea, fun i a e h1 h2 => (I.ev i a e h1 h2).but b, I.wa, fun i a p h1 h2 => (I.pv i a p h1 h2).but b, I.cnt, I.kl, I.pl⟩
theorem LR.new (Q : Four H0 sd F C W) (I : LR H0 H sd F C W nodes es as pend ws kvs) {T : Addr} {o : HO} (h : H T = none) : LR H0 (upd H T o) sd F C W nodes es as pend ws kvs :=
  I.move Q (fun a x _ e => (upd_ne (ne_of_none e h)).trans e) (upd_ne (ne_of_none I.f h)) (upd_ne (ne_of_none I.c h)) (upd_ne (ne_of_none I.w h)) (by
    obtain ⟨x, y, z, h1, h2⟩ := I.s
    exact ⟨x, y, z, (upd_ne (ne_of_none h1 h)).trans h1, h2⟩)
theorem LR.seed (Q : Four H0 sd F C W) (I : LR H0 H sd F C W nodes es as pend ws kvs) (hs : SeedAt H' sd) (h : ∀ b, b ≠ sd → H' b = H b) : LR H0 H' sd F C W nodes es as pend ws kvs :=
  I.move Q (fun a x ha e => (h a fun z => ha (by rw [z]; simp)).trans e) (h _ Q.fs) (h _ Q.cs) (h _ Q.ws) hs
/-- a tracked object that is none of the four -/
theorem LR.apart (Q : Four H0 sd F C W) (I : LR H0 H sd F C W nodes es as pend ws kvs) {T : Addr} (h : H T = none) : T ∉ zz sd F C W := by
  simp only [zz, List.mem_cons, List.not_mem_nil, or_false]
  rintro (z | z | z | z)
  · obtain ⟨x, y, z', h1, h2⟩ := I.s
    rw [z, h1] at h; cases h
  · rw [z, I.f] at h; cases h
  · rw [z, I.c] at h; cases h
  · rw [z, I.w] at h; cases h
/-- a send is counted, appended, its opens wait -/
theorem LR.send {x : Str} {rs : List Str} {a : Addr} {ps : List Addr} (Q : Four H0 sd F C W) (I : LR H0 H sd F C W nodes es as pend ws kvs) (hx : x ∈ nodes) (hr : recvB nodes x rs = true) (hnd : rs.Nodup) (hl : rs.length ≤ 12) (b : But (zz sd F C W) H H')
    (hF : H' F = some (.lst ((as ++ [a]).map V.ref))) (hC : H' C = some (.dK (putK kvs (.inr x) (.int (((rsOf nodes es).sends x).length + 1 : Nat))))) (hW : H' W = some (.lst ((ws ++ ps).map V.ref))) (hs : SeedAt H' sd)
    (ha : EvZ (zz sd F C W) H' a (.snd x rs)) (hp : ps.length = rs.length) (hpe : ∀ (i : Nat) (p : Addr) (r : Str), ps[i]? = some p → rs[i]? = some r → PvZ (zz sd F C W) H' p r x (((rsOf nodes es).sends x).length + 1 : Nat)) :
    LR H0 H' sd F C W nodes (es ++ [.snd x rs]) (as ++ [a]) (pend ++ newPend nodes es x rs) (ws ++ ps) (putK kvs (.inr x) (.int (((rsOf nodes es).sends x).length + 1 : Nat))) := by
  have nl : (newPend nodes es x rs).length = rs.length := List.length_map ..
  refine ⟨I.m.send hx hr hnd, hF, hC, hW, hs, But.base Q I.base b, by simp [I.ea], fun i c e h1 h2 => ?_, by simp [I.wa, nl, hp], fun i c p h1 h2 => ?_, cnt_send I.cnt, ?_, ?_⟩
  · by_cases k : i < es.length
    · rw [List.getElem?_append_left (by rw [I.ea]; exact k)] at h1
      rw [List.getElem?_append_left k] at h2
      exact (I.ev i c e h1 h2).but b
    · rw [List.getElem?_append_right (by rw [I.ea]; omega), I.ea] at h1
      rw [List.getElem?_append_right (by omega)] at h2
      have : i - es.length = 0 := by
        have := (List.getElem?_eq_some_iff.mp h2).1
        simp at this
        omega
      rw [this] at h1 h2
      cases h1
      cases h2
      exact ha
  · by_cases k : i < pend.length
    · rw [List.getElem?_append_left (by rw [I.wa]; exact k)] at h1
      rw [List.getElem?_append_left k] at h2
      exact (I.pv i c p h1 h2).but b
    · rw [List.getElem?_append_right (by rw [I.wa]; omega), I.wa] at h1
      rw [List.getElem?_append_right (by omega)] at h2
      unfold newPend at h2
      rw [List.getElem?_map] at h2
      obtain ⟨r, hr1, rfl⟩ := Option.map_eq_some_iff.mp h2
      exact hpe _ c r h1 hr1
  · have := length_putK kvs (.inr x) (.int (((rsOf nodes es).sends x).length + 1 : Nat))
    have := I.kl
    rw [List.length_append]
    show _ ≤ es.length + 1
    omega
  · have := I.pl
    simp [nl]
    omega
theorem LR.pop {t : Addr} {k : Nat} {p : Pend} (Q : Four H0 sd F C W) (I : LR H0 H sd F C W nodes es as pend ws kvs) (hp : pend[k]? = some p) (b : But (zz sd F C W) H H')
    (hF : H' F = some (.lst ((as ++ [t]).map V.ref))) (hC : H' C = some (.dK kvs)) (hW : H' W = some (.lst ((ws.eraseIdx k).map V.ref))) (hs : SeedAt H' sd) (ht : EvZ (zz sd F C W) H' t p.ev) :
    LR H0 H' sd F C W nodes (es ++ [p.ev]) (as ++ [t]) (pend.eraseIdx k) (ws.eraseIdx k) kvs := by
  have hk := (List.getElem?_eq_some_iff.mp hp).1
  refine ⟨I.m.pop hp, hF, hC, hW, hs, But.base Q I.base b, by simp [I.ea], fun i c e h1 h2 => ?_, ?_, fun i c q h1 h2 => ?_, ?_, ?_, ?_⟩
  · by_cases k : i < es.length
    · rw [List.getElem?_append_left (by rw [I.ea]; exact k)] at h1
      rw [List.getElem?_append_left k] at h2
      exact (I.ev i c e h1 h2).but b
    · rw [List.getElem?_append_right (by rw [I.ea]; omega), I.ea] at h1
      rw [List.getElem?_append_right (by omega)] at h2
      have : i - es.length = 0 := by
        have := (List.getElem?_eq_some_iff.mp h2).1
        simp at this
        omega
      rw [this] at h1 h2
      cases h1
      cases h2
      exact ht
  · have := I.wa
    rw [List.length_eraseIdx, List.length_eraseIdx, this]
  · rw [List.getElem?_eraseIdx] at h1 h2
    by_cases c : i < k
    · rw [if_pos c] at h1 h2
      exact (I.pv _ _ _ h1 h2).but b
    · rw [if_neg c] at h1 h2
      exact (I.pv _ _ _ h1 h2).but b
  · rw [rsOf_snoc]
    exact I.cnt
  · have := I.kl
    rw [List.length_append]
    show _ ≤ es.length + 1
    omega
  · have := I.pl
    rw [List.length_eraseIdx, List.length_append]
    show _ ≤ 12 * (es.length + 1)
    split <;> omega
end
/-! ### waiting ones as data -/
abbrev wdata (p : Pend) : PyData := .tuple [.str p.x, .tuple [.str p.s, .int p.n]]
theorem dp_wait {K : PySem.W.Frag} {H : Hp} {Z : List Addr} : ∀ {ws : List Addr} {pend : List Pend}, ws.length = pend.length → (∀ (i : Nat) (a : Addr) (p : Pend), ws[i]? = some a → pend[i]? = some p → PvZ Z H a p.x p.s p.n) → DpAll K H (ws.map V.ref) (pend.map wdata)
  | [], [], _, _ => .nil
  | a :: ws, p :: pend, hl, h => by
    obtain ⟨m, _, _, h1, h2⟩ := h 0 a p rfl rfl
    refine .cons (.tup (tpI h1) (.cons (.str _) (.cons (.tup (tpI h2) (.cons (.str _) (.cons (.int _) .nil))) .nil))) (dp_wait (by simpa using hl) fun i b q k1 k2 => h (i + 1) b q k1 k2)
theorem lay_wait {nodes : List Str} (hn : NodesOk nodes) : ∀ {pend : List Pend}, (∀ p ∈ pend, p.x ∈ nodes ∧ p.s ∈ nodes) → PyData.canLayAll0 (pend.map wdata) = true
  | [], _ => rfl
  | p :: r, h => by
    have h1 := h p List.mem_cons_self
    show ((PyData.canLay0 (.str p.x) && ((PyData.canLay0 (.str p.s) && (true && true)) && true)) && PyData.canLayAll0 (r.map wdata)) = true
    rw [name_strOk (hn.nm _ h1.1), name_strOk (hn.nm _ h1.2), lay_wait hn fun q hq => h q (List.mem_cons_of_mem _ hq)]
    rfl
theorem depth_wait : ∀ (pend : List Pend), PyData.depthAll (pend.map wdata) ≤ 2
  | [] => Nat.zero_le _
  | p :: r => by
    show max 2 (PyData.depthAll (r.map wdata)) ≤ 2
    have := depth_wait r
    omega
theorem shaped_wait {nodes : List Str} {pend : List Pend} (hn : NodesOk nodes) (h : ∀ p ∈ pend, p.x ∈ nodes ∧ p.s ∈ nodes) : SeqAt.shaped (.list (pend.map wdata)) = true := by
  unfold SeqAt.shaped
  rw [show (PyData.list (pend.map wdata)).canLay0 = PyData.canLayAll0 (pend.map wdata) from rfl, lay_wait hn h, show (PyData.list (pend.map wdata)).depth = PyData.depthAll (pend.map wdata) + 1 from rfl, Bool.true_and, decide_eq_true_eq]
  have := depth_wait pend
  omega
theorem dp_names {K : PySem.W.Frag} {H : Hp} : ∀ {rs : List Str}, DpAll K H (rs.map V.str) (rs.map PyData.str)
  | [] => .nil
  | r :: t => .cons (.str _) dp_names
theorem depth_names : ∀ (rs : List Str), PyData.depthAll (rs.map PyData.str) ≤ 0
  | [] => Nat.zero_le _
  | p :: r => by
    show max 0 (PyData.depthAll (r.map PyData.str)) ≤ 0
    have := depth_names r
    omega
theorem shaped_names {rs : List Str} (h : ∀ r ∈ rs, NameOk r) : SeqAt.shaped (.list (rs.map PyData.str)) = true := by
  unfold SeqAt.shaped
  rw [show (PyData.list (rs.map PyData.str)).canLay0 = PyData.canLayAll0 (rs.map PyData.str) from rfl, names_canLay h, show (PyData.list (rs.map PyData.str)).depth = PyData.depthAll (rs.map PyData.str) + 1 from rfl, Bool.true_and, decide_eq_true_eq]
  have := depth_names rs
  omega
end KA

set_option Elab.async false
set_option linter.all false
set_option maxRecDepth 100000
set_option maxHeartbeats 16000000
namespace KA
open PySem PySem.Spec PyProof.Rows L2 L2.Dx Kx
section
variable {P : Program} {w : World} {K : PySem.W.Frag} {mg : Str → Option Value} {base : Heap}
def sp__law_run : Sp := fun vs H Q _ => ∃ (sd N : Addr) (nodes : List Str) (most : Nat), vs = [.ref sd, .ref N, .int (most : Nat)] ∧ SeedAt H sd ∧ N ≠ sd ∧ H N = some (.lst (nodes.map V.str)) ∧ NodesOk nodes ∧ most ≤ 500 ∧
  ∀ (H' : Hp) (R : Addr) (as : List Addr) (es : List Ev), But [sd] H H' → SeedAt H' sd → H R = none → RunAt H' R as es → es.length ≤ most → RunOk nodes es → R ≠ sd → Q (.ref R) H'
theorem ok__law_run (T : Txt K mg) : FnOk P w K mg base CX0 2 T.f__law_run T.fd__law_run ["seed", "nodes", "most"] sp__law_run := by
  refine T.F__law_run.ok sc__law_run (fun vs H Q E h => ?_) (fun cdv A outer s H vs Q E hr h => ?_)
  · obtain ⟨sd, N, nodes, most, rfl, _⟩ := h
    rfl
  · obtain ⟨sd, N, nodes, most, rfl, hS, hNs, hN, hn, hm, q⟩ := h
    refine ⟨_, (pss_cons (ps_asg (pe_tup (pa_cons (pe_lst pa_nil) (pa_cons pe_dnewK (pa_cons (pe_lst pa_nil) pa_nil)))) (pg_tup rfl (pgs_cons (pg_name (i := 3) sc__law_run.nd rfl (by first | exact .inl rfl | exact .inr rfl)) (pgs_cons (pg_name (i := 4) sc__law_run.nd rfl (by first | exact .inl rfl | exact .inr rfl)) (pgs_cons (pg_name (i := 5) sc__law_run.nd rfl (by first | exact .inl rfl | exact .inr rfl)) pgs_nil)))))
    (pss_cons (ps_set (i := 6) sc__law_run.nd rfl (by first | exact .inl rfl | exact .inr rfl) (pe_call (ok__law_next T) (hr.mono (by decide)) rfl T.M__law_next T.F__law_next.kp (b__law_next T) .nil pass0 (pa_cons (pv 0) (pa_cons pe_int pa_nil))))
    (pss_cons (ps_for PassesOwn.never rfl (pi_range1 (by rfl) T.m_range (pa_cons (pe_call (ok__law_next T) (hr.mono (by decide)) rfl T.M__law_next T.F__law_next.kp (b__law_next T) .nil pass0 (pa_cons (pv 0) (pa_cons (pe_op op_add (pv 2) pe_int) pa_nil))) pa_nil)) (pg_name (i := 7) sc__law_run.nd rfl (by first | exact .inl rfl | exact .inr rfl))
      (pss_one (ps_if (PW.pt (pw_and (pt_cmpR (op_neD hr.units) (pv 5) (pe_lst pa_nil) (nomark _)) (pw_and1 (pt_cmpR op_gt (pe_call (ok__law_next T) (hr.mono (by decide)) rfl T.M__law_next T.F__law_next.kp (b__law_next T) .nil pass0 (pa_cons (pv 0) (pa_cons (pe_op op_add pe_int (pv 6)) pa_nil))) pe_int (nomark _)))))
        (pss_cons (ps_asg (pe_bm PySem.F.plainAttrs_list PySem.F.slot_list_pop PySem.F.type_list_pop mt_popAt (pv 5) (pa_cons (pe_ix ix_list (pe_lst (pa_cons pe_int (pa_cons (pe_call (ok__law_next T) (hr.mono (by decide)) rfl T.M__law_next T.F__law_next.kp (b__law_next T) .nil pass0 (pa_cons (pv 0) (pa_cons (pe_callB call_len_seq (by rfl) T.m_len PySem.boot_len (pa_cons (pv 5) pa_nil)) pa_nil))) pa_nil))) (pe_call (ok__law_next T) (hr.mono (by decide)) rfl T.M__law_next T.F__law_next.kp (b__law_next T) .nil pass0 (pa_cons (pv 0) (pa_cons pe_int pa_nil))) (fun _ _ => rfl)) pa_nil)) (pg_tup rfl (pgs_cons (pg_name (i := 8) sc__law_run.nd rfl (by first | exact .inl rfl | exact .inr rfl)) (pgs_cons (pg_name (i := 9) sc__law_run.nd rfl (by first | exact .inl rfl | exact .inr rfl)) pgs_nil))))
        (pss_one (ps_expr (pe_bm PySem.F.plainAttrs_list PySem.F.slot_list_append PySem.F.type_list_append mt_append (pv 3) (pa_cons (pe_tup (pa_cons pe_str (pa_cons (pv 8) (pa_cons (pv 9) pa_nil)))) pa_nil)))))
        (pss_cons (ps_set (i := 8) sc__law_run.nd rfl (by first | exact .inl rfl | exact .inr rfl) (pe_ix ix_list (pv 1) (pe_call (ok__law_next T) (hr.mono (by decide)) rfl T.M__law_next T.F__law_next.kp (b__law_next T) .nil pass0 (pa_cons (pv 0) (pa_cons (pe_callB call_len_seq (by rfl) T.m_len PySem.boot_len (pa_cons (pv 1) pa_nil)) pa_nil))) (fun _ _ => rfl)))
        (pss_cons (ps_setLc (i := 10) (own := [("one", 13)]) rfl sc__law_run.nd rfl rfl (sw_true rfl rfl rfl (by decide +kernel)) (pi_list (pv 1)) (blkOk_by (N := ["seed", "nodes", "most", "found", "counts", "waiting", "style", "turn", "node", "message", "others", "some", "receivers", "one"]) (sc := defScope s__law_run) (by decide +kernel)) (fun _ _ _ _ _ => (pg_name (i := 13) sc__law_run.nd rfl (by first | exact .inl rfl | exact .inr rfl))) (fun _ _ _ _ _ => (pts_one (pt_cmpR op_ne (pv 13) (pv 8) (nomark _)))) (fun _ _ _ _ _ => (pv 13)))
        (pss_cons (ps_setLc (i := 11) (own := [("one", 13)]) rfl sc__law_run.nd rfl rfl (sw_true rfl rfl rfl (by decide +kernel)) (pi_list (pv 10)) (blkOk_by (N := ["seed", "nodes", "most", "found", "counts", "waiting", "style", "turn", "node", "message", "others", "some", "receivers", "one"]) (sc := defScope s__law_run) (by decide +kernel)) (fun _ _ _ _ _ => (pg_name (i := 13) sc__law_run.nd rfl (by first | exact .inl rfl | exact .inr rfl))) (fun _ _ _ _ _ => (pts_one (pt_cmpR op_eq (pe_call (ok__law_next T) (hr.mono (by decide)) (by rfl) T.M__law_next T.F__law_next.kp (b__law_next T) .nil pass0 (pa_cons (pv 0) (pa_cons pe_int pa_nil))) pe_int (nomark _)))) (fun _ _ _ _ _ => (pv 13)))
        (pss_cons (ps_set (i := 12) sc__law_run.nd rfl (by first | exact .inl rfl | exact .inr rfl) (pe_ix ix_list (pe_lst (pa_cons (pe_lst (pa_cons (pe_ix ix_list (pv 10) (pe_call (ok__law_next T) (hr.mono (by decide)) rfl T.M__law_next T.F__law_next.kp (b__law_next T) .nil pass0 (pa_cons (pv 0) (pa_cons (pe_callB call_len_seq (by rfl) T.m_len PySem.boot_len (pa_cons (pv 10) pa_nil)) pa_nil))) (fun _ _ => rfl)) pa_nil)) (pa_cons (pv 11) (pa_cons (pv 10) pa_nil)))) (pe_call (ok__law_next T) (hr.mono (by decide)) rfl T.M__law_next T.F__law_next.kp (b__law_next T) .nil pass0 (pa_cons (pv 0) (pa_cons pe_int pa_nil))) (fun _ _ => rfl)))
        (pss_cons (ps_set (i := 12) sc__law_run.nd rfl (by first | exact .inl rfl | exact .inr rfl) (pe_ifExp (pt_cmpR (op_neD hr.units) (pv 12) (pe_lst pa_nil) (nomark _)) (pv 12) (pe_slice sl_list (pv 10) po_none (po_some pe_int))))
        (pss_cons (ps_dput (hu_of hr) (pv 4) (pv 8) (pe_op op_add (pe_dget2 (hu_of hr) (pv 4) (pv 8) pe_int ⟨rfl, rfl, rfl, rfl⟩) pe_int) rfl)
        (pss_cons (ps_expr (pe_bm PySem.F.plainAttrs_list PySem.F.slot_list_append PySem.F.type_list_append mt_append (pv 3) (pa_cons (pe_tup (pa_cons pe_str (pa_cons (pv 8) (pa_cons (pe_callTy call_list_of (by rfl) T.m_list (by decide +kernel) (pa_cons (pv 12) pa_nil)) pa_nil)))) pa_nil)))
        (pss_one (ps_expr (pe_bm PySem.F.plainAttrs_list PySem.F.slot_list_extend PySem.F.type_list_extend mt_extend (pv 5) (pa_cons (pe_lc (own := [("one", 13)]) rfl sc__law_run.nd (pi_list (pv 12)) (blkOk_by (N := ["seed", "nodes", "most", "found", "counts", "waiting", "style", "turn", "node", "message", "others", "some", "receivers", "one"]) (sc := defScope s__law_run) (by decide +kernel)) (fun _ _ _ _ _ => (pg_name (i := 13) sc__law_run.nd rfl (by first | exact .inl rfl | exact .inr rfl))) (fun _ _ _ _ _ => pts_nil) (fun _ _ _ _ _ => (pe_tup (pa_cons (pv 13) (pa_cons (pe_tup (pa_cons (pv 8) (pa_cons (pe_dget (hu_of hr) (pv 4) (pv 8) (fun _ _ => rfl)) pa_nil))) pa_nil))))) pa_nil))))))))))))))
    (pss_one (ps_ret (pv 3)))))), ?_⟩
    have n12 := hn.hi
    have n2 := hn.lo
    -- found, counts, waiting
    refine ⟨Nat.zero_le _, fun F hF => fun C hC => ⟨Nat.zero_le _, fun W hW => ⟨by show 3 ≤ sizeLine; decide, fun Tp hT => ⟨Tp, _, rfl, tpI upd_same, rfl, _, _, rfl, _, _, rfl, _, _, rfl, rfl, ?_⟩⟩⟩⟩
    have nFC : F ≠ C := ne_of_none upd_same hC
    have nFW : F ≠ W := ne_of_none ((upd_ne nFC).trans upd_same) hW
    have nCW : C ≠ W := ne_of_none upd_same hW
    have s1 : Same H (upd H F (.lst [])) := same_new hF
    have s2 : Same H (upd (upd H F (.lst [])) C (.dK [])) := s1.trans (same_new hC)
    have s3 : Same H (upd (upd (upd H F (.lst [])) C (.dK [])) W (.lst [])) := s2.trans (same_new hW)
    have hsd : ∀ {a : Addr}, H a = none → a ≠ sd := fun {a} h z => by
      obtain ⟨x, y, z', h1, _⟩ := hS
      rw [z, h1] at h
      cases h
    have QQ : Four H sd F C W := ⟨hF, s1.free hC, s2.free hW, hsd hF, hsd (s1.free hC), hsd (s2.free hW), nFC, nFW, nCW⟩
    have hNk : ∀ {H' : Hp}, But [sd] H H' → H' N = some (.lst (nodes.map V.str)) := fun b => b _ _ (by simpa using hNs) hN
    have I0 : LR H (upd (upd (upd (upd H F (.lst [])) C (.dK [])) W (.lst [])) Tp (.tup [.ref F, .ref C, .ref W])) sd F C W nodes [] [] [] [] [] := by
      have t1 := same_new (o := .tup [.ref F, .ref C, .ref W]) hT
      refine ⟨⟨fun i hi => absurd hi (Nat.not_lt_zero _), List.nodup_nil, fun p hp => by cases hp⟩, ?_, ?_, ?_, ?_, But.same (s3.trans t1), rfl, fun i a e h1 => by simp at h1, rfl, fun i a p h1 => by simp at h1, fun x => rfl, Nat.le_refl _, Nat.le_refl _⟩
      · exact t1 _ _ ((upd_ne nFW).trans ((upd_ne nFC).trans upd_same))
      · exact t1 _ _ ((upd_ne nCW).trans upd_same)
      · exact t1 _ _ upd_same
      · obtain ⟨x, y, z, h1, h2⟩ := hS
        exact ⟨x, y, z, t1 _ _ (s3 _ _ h1), h2⟩
    generalize upd (upd (upd (upd H F (.lst [])) C (.dK [])) W (.lst [])) Tp (.tup [.ref F, .ref C, .ref W]) = H1 at I0 ⊢
    clear hT s1 s2 s3 hF hC hW
    -- style
    refine ⟨.ref sd, rfl, sd, 3, rfl, I0.s, by decide, by decide, fun H2 r6 hs2 hb2 h60 h61 => ?_⟩
    have I2 := I0.seed QQ hs2 hb2
    clear I0 hs2 hb2
    refine ⟨.ref sd, rfl, .int (most : Nat), rfl, most, 1, rfl, rfl, sd, _, rfl, I2.s, by omega, by omega, fun H3 r3 hs3 hb3 h30 h31 => ⟨r3, rfl, by omega, by omega, for_range (fun i σ H' => ∃ es as pend ws kvs y7 y8 y9 y10 y11 y12 y13, es.length ≤ i ∧ LR H H' sd F C W nodes es as pend ws kvs ∧ σ = [some (.ref sd), some (.ref N), some (.int (most : Nat)), some (.ref F), some (.ref C), some (.ref W), some (.int r6), y7, y8, y9, y10, y11, y12, y13]) ?_ ?_ ?_⟩⟩
    · exact ⟨[], [], [], [], [], none, none, none, none, none, none, none, Nat.le_refl _, I2.seed QQ hs3 hb3, rfl⟩
    · clear I2 hs3 hb3
      rintro i σ H4 hi ⟨es, as, pend, ws, kvs, y7, y8, y9, y10, y11, y12, y13, hle, I4, rfl⟩
      have hem : es.length < most := by omega
      have hal : (as.map V.ref).length = es.length := by rw [List.length_map, I4.ea]
      refine ⟨.ref W, rfl, Nat.zero_le _, fun E hE => ?_⟩
      have J := I4.new QQ (o := .lst []) hE
      have hE2 : (upd H4 E (.lst [])) E = some (.lst []) := upd_same
      generalize upd H4 E (.lst []) = H5 at J hE2 ⊢
      refine ⟨.list (pend.map wdata), .list [], .lst (ltI J.w) (dp_wait J.wa J.pv), .lst (ltI hE2) .nil, shaped_wait hn (pend_in J.m), rfl, _, rfl, ?_⟩
      have zsd : ∀ {a : Addr}, a ∉ zz sd F C W → a ≠ sd := fun {a} h z => h (by rw [z]; simp)
      by_cases c0 : pend = []
      case' pos =>
        rw [show PyData.eqv (.list (pend.map wdata)) (.list []) = true by rw [c0]; rfl]
        refine iteF (iteF ?_)
        have I6 := J
        clear J I4
      case' neg =>
        rw [show PyData.eqv (.list (pend.map wdata)) (.list []) = false by
            cases pend with
            | nil => exact absurd rfl c0
            | cons _ _ => rfl]
        refine iteT ⟨.ref sd, rfl, .int r6, rfl, 2, r6, rfl, rfl, sd, _, rfl, J.s, by omega, by omega, fun H6 r h0 hb h1 h2 => ⟨_, 0, rfl, rfl, _, rfl, ite2 (fun _ => ?op) (fun _ => ?sn)⟩⟩
        case' op =>
          have I6 := J.seed QQ h0 hb
          clear J I4 h0 hb
          have hpl := I6.pl
          have hwl : (ws.map V.ref).length = pend.length := by rw [List.length_map, I6.wa]
          have hp0 : 0 < pend.length := List.length_pos_iff.mpr c0
          refine ⟨.ref W, rfl, .inl ⟨rfl, _, .inl (.inl I6.w)⟩, .ref sd, rfl, .ref W, rfl, W, _, rfl, .inl (ltI I6.w), sd, _, rfl, I6.s, by omega, by omega, fun H7 r7 hs7 hb7 h70 h71 => ⟨by show 2 ≤ sizeLine; decide, fun L hL => ?_⟩⟩
          have I7 := I6.seed QQ hs7 hb7
          have LZ := I7.apart QQ hL
          have I8 := I7.new QQ (o := .lst [.int 0, .int r7]) hL
          have hL8 : (upd H7 L (.lst [.int 0, .int r7])) L = some (.lst [.int 0, .int r7]) := upd_same
          generalize upd H7 L (.lst [.int 0, .int r7]) = H8 at I8 hL8 ⊢
          clear I6 I7 hs7 hb7 hL
          refine ⟨.ref sd, rfl, sd, 2, rfl, I8.s, by decide, by decide, fun H9 r9 hs9 hb9 h90 h91 => ?_⟩
          have I9 := I8.seed QQ hs9 hb9
          have hL9 := (hb9 L (zsd LZ)).trans hL8
          clear I8 hs9 hb9 hL8
          obtain ⟨k, hk, hat⟩ : ∃ k : Nat, k < pend.length ∧ atI [V.int 0, V.int r7] r9 = some (.int (k : Nat)) := by
            have : r9 = 0 ∨ r9 = 1 := by omega
            rcases this with e | e
            · exact ⟨0, hp0, by rw [e]; rfl⟩
            · exact ⟨r7.toNat, by omega, by rw [e, show ((r7.toNat : Nat) : Int) = r7 by omega]; rfl⟩
          obtain ⟨p, hp⟩ : ∃ p, pend[k]? = some p := ⟨_, List.getElem?_eq_getElem hk⟩
          obtain ⟨a, ha⟩ : ∃ a, ws[k]? = some a := ⟨_, List.getElem?_eq_getElem (by rw [I9.wa]; exact hk)⟩
          refine ⟨L, _, r9, _, rfl, rfl, ltI hL9, hat, W, _, _, k, .ref a, rfl, rfl, I9.w, by omega, by omega, by rw [hwl]; exact seqIx_nat hk, by rw [List.getElem?_map, ha]; rfl, ?_⟩
          rw [map_erase]
          obtain ⟨m, z1, z2, z3, z4⟩ := I9.pv k a p ha hp
          have bW : But (zz sd F C W) H9 (upd H9 W (.lst ((ws.eraseIdx k).map V.ref))) := But.put (by simp [zz])
          have hF1 : (upd H9 W (.lst ((ws.eraseIdx k).map V.ref))) F = some (.lst (as.map V.ref)) := (upd_ne QQ.fw).trans I9.f
          have hC1 : (upd H9 W (.lst ((ws.eraseIdx k).map V.ref))) C = some (.dK kvs) := (upd_ne QQ.cw).trans I9.c
          have hW1 : (upd H9 W (.lst ((ws.eraseIdx k).map V.ref))) W = some (.lst ((ws.eraseIdx k).map V.ref)) := upd_same
          have hs1 : SeedAt (upd H9 W (.lst ((ws.eraseIdx k).map V.ref))) sd := by
            obtain ⟨x, y, z, h1, h2⟩ := I9.s
            exact ⟨x, y, z, (upd_ne (Ne.symm QQ.ws)).trans h1, h2⟩
          generalize upd H9 W (.lst ((ws.eraseIdx k).map V.ref)) = H10 at bW hF1 hC1 hW1 hs1 ⊢
          refine ⟨a, _, rfl, tpI (bW _ _ z1 z3), rfl, _, _, rfl, _, _, rfl, rfl, ?_⟩
          refine ⟨.ref F, rfl, .inl ⟨rfl, _, .inl (.inl hF1)⟩, .str p.x, rfl, .ref m, rfl, by show 3 ≤ sizeLine; decide, fun t ht => ?_⟩
          have tZ : t ∉ zz sd F C W := by
            simp only [zz, List.mem_cons, List.not_mem_nil, or_false]
            rintro (z | z | z | z)
            · obtain ⟨x, y, z', h1, h2⟩ := hs1
              rw [z, h1] at ht; cases ht
            · rw [z, hF1] at ht; cases ht
            · rw [z, hC1] at ht; cases ht
            · rw [z, hW1] at ht; cases ht
          have sT : Same H10 (upd H10 t (.tup [.str "open", .str p.x, .ref m])) := same_new ht
          refine ⟨F, _, _, rfl, rfl, sT _ _ hF1, small1000 (by rw [hal]; omega), ?_⟩
          have bF : But (zz sd F C W) (upd H10 t (.tup [.str "open", .str p.x, .ref m])) (upd (upd H10 t (.tup [.str "open", .str p.x, .ref m])) F (.lst (as.map V.ref ++ [.ref t]))) := But.put (by simp [zz])
          have I11 := I9.pop (t := t) QQ hp ((bW.trans (But.same sT)).trans bF) (by rw [upd_same, List.map_append]; rfl) ((upd_ne (Ne.symm QQ.fc)).trans (sT _ _ hC1)) ((upd_ne (Ne.symm QQ.fw)).trans (sT _ _ hW1)) (by
              obtain ⟨x, y, z, h1, h2⟩ := hs1
              exact ⟨x, y, z, (upd_ne (Ne.symm QQ.fs)).trans (sT _ _ h1), h2⟩) ⟨m, tZ, z2, bF _ _ tZ upd_same, bF _ _ z2 (sT _ _ (bW _ _ z2 z4))⟩
          exact ⟨_, _, _, _, _, _, _, _, _, _, _, _, by simp; omega, I11, rfl⟩
        case' sn =>
          have I6 := J.seed QQ h0 hb
          clear J I4
      all_goals
        have hN6 := hNk I6.base
        refine ⟨.ref N, rfl, .ref sd, rfl, .ref N, rfl, N, _, rfl, .inl (ltI hN6), sd, _, rfl, I6.s, by rw [List.length_map]; omega, by rw [List.length_map]; omega, fun H7 r hs7 hb7 hr0 hr1 => ?_⟩
        rw [List.length_map] at hr1
        have I7 := I6.seed QQ hs7 hb7
        clear I6 hs7 hb7 hN6
        have hN7 := hNk I7.base
        obtain ⟨nr, hnr⟩ : ∃ nr : Nat, r = (nr : Int) := ⟨r.toNat, by omega⟩
        subst hnr
        have hnl : nr < nodes.length := by omega
        obtain ⟨x, hx⟩ : ∃ x, nodes[nr]? = some x := ⟨_, List.getElem?_eq_getElem hnl⟩
        have hxn := List.mem_of_getElem? hx
        refine ⟨N, _, _, .str x, rfl, rfl, ltI hN7, atI_nat (by rw [List.getElem?_map, hx]; rfl), ?_⟩
        -- others
        refine ⟨.ref N, rfl, N, rfl, ⟨_, ltI hN7⟩, fun D hD => lc_others (x := x) (show 13 < 14 by decide) (by decide) rfl hN7 (by omega) hD fun H8 hb8 hD8 => ?_⟩
        have I8 : LR H H8 sd F C W nodes es as pend ws kvs := by
          refine I7.move QQ (fun a v ha e => (hb8 a (ne_of_none e hD)).trans e) (hb8 _ (ne_of_none I7.f hD)) (hb8 _ (ne_of_none I7.c hD)) (hb8 _ (ne_of_none I7.w hD)) ?_
          obtain ⟨a, b, c, h1, h2⟩ := I7.s
          exact ⟨a, b, c, (hb8 _ (ne_of_none h1 hD)).trans h1, h2⟩
        have DZ : D ∉ zz sd F C W := I7.apart QQ hD
        clear hb8 I7 hD
        generalize hos : (nodes.filter fun y => decide (y ≠ x)) = os at hD8
        have hosne : os ≠ [] := by rw [← hos]; exact others_ne hn
        have hossub : os.Sublist nodes := by rw [← hos]; exact List.filter_sublist
        have hosx : ∀ r ∈ os, r ≠ x := fun r hr => by
          rw [← hos, List.mem_filter] at hr
          simpa using hr.2
        have hosl : os.length ≤ 12 := Nat.le_trans hossub.length_le n12
        have hos0 : 0 < os.length := List.length_pos_iff.mpr hosne
        have Dsd := zsd DZ
        -- some
        refine ⟨.ref D, rfl, D, rfl, ⟨_, ltI hD8⟩, fun D1 hD1 => lc_list (xs := os.map V.str) (fun i H' => SeedAt H' sd ∧ (∀ b, b ≠ sd → b ≠ D1 → H' b = H8 b) ∧ ∃ sm : List Str, H' D1 = some (.lst (sm.map V.str)) ∧ sm.Sublist (os.take i)) ?_ ?_ ?_ ?_⟩
        · refine ⟨?_, fun b _ hb => upd_ne hb, [], upd_same, List.nil_sublist _⟩
          obtain ⟨a, b, c, h1, h2⟩ := I8.s
          exact ⟨a, b, c, (upd_ne (ne_of_none h1 hD1)).trans h1, h2⟩
        · exact fun i H' _ hI => ltI ((hI.2.1 D Dsd (ne_of_none hD8 hD1)).trans hD8)
        · rintro i v H' hv ⟨S, hb, sm, hsm, hsub⟩
          rw [List.getElem?_map] at hv
          obtain ⟨o, ho, rfl⟩ := Option.map_eq_some_iff.mp hv
          have D1sd : D1 ≠ sd := zsd (I8.apart QQ hD1)
          refine ⟨by simp [wipe, List.set_set], .ref sd, rfl, sd, 2, rfl, S, by decide, by decide, fun H9 r9 S9 hb9 _ _ => ⟨rfl, _, rfl, ite2 (fun _ => ?_) (fun _ => ?_)⟩⟩
          · refine ⟨.str o, rfl, sm.map V.str, (hb9 D1 D1sd).trans hsm, small1000 (by
              rw [List.length_map]
              have := hsub.length_le
              rw [List.length_take] at this
              omega), ?_, fun b h1 h2 => (upd_ne h2).trans ((hb9 b h1).trans (hb b h1 h2)), sm ++ [o], by rw [upd_same, List.map_append]; rfl, ?_⟩
            · obtain ⟨a, b, c, h1, h2⟩ := S9
              exact ⟨a, b, c, (upd_ne (Ne.symm D1sd)).trans h1, h2⟩
            · rw [take_snoc ho]
              exact hsub.append (List.Sublist.refl _)
          · refine ⟨S9, fun b h1 h2 => (hb9 b h1).trans (hb b h1 h2), sm, (hb9 D1 D1sd).trans hsm, ?_⟩
            rw [take_snoc ho]
            exact hsub.trans (List.sublist_append_left _ _)
        rintro H9 ⟨S9, hb9, sm, hsm, hsub⟩
        rw [List.length_map, List.take_length] at hsub
        have D1Z := I8.apart QQ hD1
        have I9 : LR H H9 sd F C W nodes es as pend ws kvs := by
          refine I8.move QQ (fun a v ha e => (hb9 a (fun z => ha (by rw [z]; simp)) (ne_of_none e hD1)).trans e) (hb9 _ QQ.fs (ne_of_none I8.f hD1)) (hb9 _ QQ.cs (ne_of_none I8.c hD1)) (hb9 _ QQ.ws (ne_of_none I8.w hD1)) S9
        have hD9 := (hb9 D Dsd (ne_of_none hD8 hD1)).trans hD8
        clear hb9 I8 hD8 hD1 S9
        -- receivers
        refine ⟨.ref D, rfl, .ref sd, rfl, .ref D, rfl, D, _, rfl, .inl (ltI hD9), sd, _, rfl, I9.s, by rw [List.length_map]; omega, by rw [List.length_map]; omega, fun H10 r10 hs10 hb10 h100 h101 => ?_⟩
        rw [List.length_map] at h101
        have I10 := I9.seed QQ hs10 hb10
        have hD10 := (hb10 D Dsd).trans hD9
        have hE10 := (hb10 D1 (zsd D1Z)).trans hsm
        clear I9 hs10 hb10 hD9 hsm
        obtain ⟨o, ho⟩ : ∃ o, os[r10.toNat]? = some o := ⟨_, List.getElem?_eq_getElem (by omega)⟩
        refine ⟨D, _, r10, .str o, rfl, rfl, ltI hD10, by rw [show r10 = ((r10.toNat : Nat) : Int) by omega]; exact atI_nat (by rw [List.getElem?_map, ho]; rfl), by show 1 ≤ sizeLine; decide, fun D2 hD2 => ?_⟩
        have I11 := I10.new QQ (o := .lst [.str o]) hD2
        have D2Z := I10.apart QQ hD2
        have hD11 : (upd H10 D2 (.lst [.str o])) D = some (.lst (os.map V.str)) := (upd_ne (ne_of_none hD10 hD2)).trans hD10
        have hE11 : (upd H10 D2 (.lst [.str o])) D1 = some (.lst (sm.map V.str)) := (upd_ne (ne_of_none hE10 hD2)).trans hE10
        have hG11 : (upd H10 D2 (.lst [.str o])) D2 = some (.lst [.str o]) := upd_same
        generalize upd H10 D2 (.lst [.str o]) = H11 at I11 hD11 hE11 hG11 ⊢
        clear I10 hD10 hE10 hD2
        refine ⟨.ref D1, rfl, .ref D, rfl, by show 3 ≤ sizeLine; decide, fun L hL => ?_⟩
        have I12 := I11.new QQ (o := .lst [.ref D2, .ref D1, .ref D]) hL
        have LZ := I11.apart QQ hL
        have hD12 : (upd H11 L (.lst [.ref D2, .ref D1, .ref D])) D = some (.lst (os.map V.str)) := (upd_ne (ne_of_none hD11 hL)).trans hD11
        have hE12 : (upd H11 L (.lst [.ref D2, .ref D1, .ref D])) D1 = some (.lst (sm.map V.str)) := (upd_ne (ne_of_none hE11 hL)).trans hE11
        have hG12 : (upd H11 L (.lst [.ref D2, .ref D1, .ref D])) D2 = some (.lst [.str o]) := (upd_ne (ne_of_none hG11 hL)).trans hG11
        have hL12 : (upd H11 L (.lst [.ref D2, .ref D1, .ref D])) L = some (.lst [.ref D2, .ref D1, .ref D]) := upd_same
        generalize upd H11 L (.lst [.ref D2, .ref D1, .ref D]) = H12 at I12 hD12 hE12 hG12 hL12 ⊢
        clear I11 hD11 hE11 hG11 hL
        refine ⟨.ref sd, rfl, sd, 3, rfl, I12.s, by decide, by decide, fun H13 r13 hs13 hb13 h130 h131 => ?_⟩
        have I13 := I12.seed QQ hs13 hb13
        have hL13 := (hb13 L (zsd LZ)).trans hL12
        have hD13 := (hb13 D (zsd DZ)).trans hD12
        obtain ⟨l, rs, hl13, lZ, rsub0, hat⟩ : ∃ (l : Addr) (rs : List Str), H13 l = some (.lst (rs.map V.str)) ∧ l ∉ zz sd F C W ∧ rs.Sublist os ∧ atI [V.ref D2, .ref D1, .ref D] r13 = some (.ref l) := by
          have : r13 = 0 ∨ r13 = 1 ∨ r13 = 2 := by omega
          rcases this with e | e | e
          · exact ⟨D2, [o], (hb13 D2 (zsd D2Z)).trans hG12, D2Z, List.singleton_sublist.mpr (List.mem_of_getElem? ho), by rw [e]; rfl⟩
          · exact ⟨D1, sm, (hb13 D1 (zsd D1Z)).trans hE12, D1Z, hsub, by rw [e]; rfl⟩
          · exact ⟨D, os, hD13, DZ, List.Sublist.refl _, by rw [e]; rfl⟩
        refine ⟨L, _, r13, .ref l, rfl, rfl, ltI hL13, hat, ?_⟩
        clear I12 hs13 hb13 hD12 hE12 hG12 hL12 hL13 hat hsub
        -- no empty list
        refine ⟨.ref l, rfl, Nat.zero_le _, fun E hE => ?_⟩
        have I14 := I13.new QQ (o := .lst []) hE
        have hl14 : (upd H13 E (.lst [])) l = some (.lst (rs.map V.str)) := (upd_ne (ne_of_none hl13 hE)).trans hl13
        have hD14 : (upd H13 E (.lst [])) D = some (.lst (os.map V.str)) := (upd_ne (ne_of_none hD13 hE)).trans hD13
        have hE14 : (upd H13 E (.lst [])) E = some (.lst []) := upd_same
        generalize upd H13 E (.lst []) = H14 at I14 hl14 hD14 hE14 ⊢
        clear I13 hl13 hD13 hE
        have hname : ∀ r ∈ os, NameOk r := fun r hr => hn.nm r (hossub.subset hr)
        refine ⟨.list (rs.map PyData.str), .list [], .lst (ltI hl14) dp_names, .lst (ltI hE14) .nil, shaped_names (fun r hr => hname r (rsub0.subset hr)), rfl, _, rfl, ?_⟩
        by_cases c1 : rs = []
        case' pos =>
          rw [show PyData.eqv (.list (rs.map PyData.str)) (.list []) = true by rw [c1]; rfl]
          refine iteF ⟨.ref D, rfl, 1, rfl, D, _, rfl, ltI hD14, fun D3 hD3 => ?_⟩
          clear lZ hl14 rsub0
          have I15 := I14.new QQ (o := .lst (cutV (os.map V.str) none (some 1))) hD3
          have lZ := I14.apart QQ hD3
          have hl8 : (upd H14 D3 (.lst (cutV (os.map V.str) none (some 1)))) D3 = some (.lst ((os.take 1).map V.str)) := by rw [upd_same, cut_take1, List.map_take]
          generalize upd H14 D3 (.lst (cutV (os.map V.str) none (some 1))) = H15 at I15 hl8 ⊢
          have rsub : (os.take 1).Sublist os := List.take_sublist _ _
          have rne : os.take 1 ≠ [] := by
            intro z
            have : (os.take 1).length = 0 := by rw [z]; rfl
            rw [List.length_take] at this
            omega
          clear c1
          generalize os.take 1 = rs1 at hl8 rsub rne
          obtain ⟨lq, eq1⟩ : ∃ lq, lq = D3 := ⟨_, rfl⟩
          obtain ⟨rq, eq2⟩ : ∃ rq, rq = rs1 := ⟨_, rfl⟩
          rw [← eq1] at hl8 lZ ⊢
          rw [← eq2] at hl8 rsub rne
          clear eq1 eq2
        case' neg =>
          rw [show PyData.eqv (.list (rs.map PyData.str)) (.list []) = false by
            cases rs with
            | nil => exact absurd rfl c1
            | cons _ _ => rfl]
          refine iteT ⟨.ref l, rfl, ?_⟩
          have I15 := I14
          have hl8 := hl14
          have rsub := rsub0
          have rne := c1
          clear hl14 rsub0 c1
          obtain ⟨lq, eq1⟩ : ∃ lq, lq = l := ⟨_, rfl⟩
          obtain ⟨rq, eq2⟩ : ∃ rq, rq = rs := ⟨_, rfl⟩
          rw [← eq1] at hl8 lZ ⊢
          rw [← eq2] at hl8 rsub rne
          clear eq1 eq2 hD14 hE14 I14
          obtain ⟨H15, eq3⟩ : ∃ Hx, Hx = H14 := ⟨_, rfl⟩
          rw [← eq3] at I15 hl8 ⊢
          clear eq3
        all_goals
          have rsx : ∀ r ∈ rq, r ≠ x := fun r hr => hosx r (rsub.subset hr)
          have hrb : recvB nodes x rq = true := recvB_sub hn (rsub.trans hossub) rne rsx
          have rnd : rq.Nodup := hn.nodup.sublist (rsub.trans hossub)
          have rl : rq.length ≤ 12 := Nat.le_trans rsub.length_le hosl
          -- counts
          have hcnt : (valV kvs (.inr x)).getD (.int 0) = .int (((rsOf nodes es).sends x).length : Nat) := by
            rw [I15.cnt x]
            by_cases c : ((rsOf nodes es).sends x).length = 0
            · rw [if_pos c, c]
              rfl
            · rw [if_neg c]
              rfl
          have hkl : kvs.length < sizeLine := small1000 (by have := I15.kl; omega)
          refine ⟨.ref C, rfl, C, rfl, .inl ⟨_, .inl I15.c⟩, .str x, rfl, _, DGet.k (k := Sum.inr x) I15.c, _, 1, hcnt, rfl, .ref C, rfl, .str x, rfl, C, _, rfl, DPut.k (k := Sum.inr x) I15.c hkl, ?_⟩
          have b9 : But (zz sd F C W) H15 (upd H15 C (.dK (putK kvs (Sum.inr x) (.int ((((rsOf nodes es).sends x).length : Nat) + 1))))) := But.put (by simp [zz])
          have F9 : (upd H15 C (.dK (putK kvs (Sum.inr x) (.int ((((rsOf nodes es).sends x).length : Nat) + 1))))) F = some (.lst (as.map V.ref)) := (upd_ne QQ.fc).trans I15.f
          have W9 : (upd H15 C (.dK (putK kvs (Sum.inr x) (.int ((((rsOf nodes es).sends x).length : Nat) + 1))))) W = some (.lst (ws.map V.ref)) := (upd_ne (Ne.symm QQ.cw)).trans I15.w
          have C9 : (upd H15 C (.dK (putK kvs (Sum.inr x) (.int ((((rsOf nodes es).sends x).length : Nat) + 1))))) C = some (.dK (putK kvs (Sum.inr x) (.int ((((rsOf nodes es).sends x).length : Nat) + 1)))) := upd_same
          have S9 : SeedAt (upd H15 C (.dK (putK kvs (Sum.inr x) (.int ((((rsOf nodes es).sends x).length : Nat) + 1))))) sd := by
            obtain ⟨a, b, c, h1, h2⟩ := I15.s
            exact ⟨a, b, c, (upd_ne (Ne.symm QQ.cs)).trans h1, h2⟩
          have ecn : (((rsOf nodes es).sends x).length : Nat) + (1 : Int) = ((((rsOf nodes es).sends x).length + 1 : Nat) : Int) := by omega
          generalize hkv : putK kvs (Sum.inr x) (.int ((((rsOf nodes es).sends x).length : Nat) + 1)) = kv1 at b9 F9 W9 C9 S9 ⊢
          rw [ecn] at hkv
          have hcv : valV kv1 (.inr x) = some (.int ((((rsOf nodes es).sends x).length + 1 : Nat) : Int)) := by rw [← hkv, valV_put, if_pos rfl]
          generalize upd H15 C (.dK kv1) = H9 at b9 F9 W9 C9 S9 ⊢
          have hl9 := b9 _ _ lZ hl8
          -- found
          refine ⟨.ref F, rfl, .inl ⟨rfl, _, .inl (.inl F9)⟩, .str x, rfl, .ref lq, rfl, lq, rq.map V.str, rfl, .inl (ltI hl9), fun l2 hl2 => ⟨by show 3 ≤ sizeLine; decide, fun t ht => ?_⟩⟩
          have nZ : ∀ {H2 : Hp} {a : Addr}, Same H9 H2 → H2 a = none → a ∉ zz sd F C W := fun {H2 a} sm ha => by
            simp only [zz, List.mem_cons, List.not_mem_nil, or_false]
            have hb := sm.free ha
            rintro (z | z | z | z)
            · obtain ⟨x, y, z', h1, h2⟩ := S9
              rw [z, h1] at hb; cases hb
            · rw [z, F9] at hb; cases hb
            · rw [z, C9] at hb; cases hb
            · rw [z, W9] at hb; cases hb
          have sL : Same H9 (upd H9 l2 (.lst (rq.map V.str))) := same_new hl2
          have l2Z := nZ (fun _ _ h => h) hl2
          have tZ := nZ sL ht
          have sT : Same H9 (upd (upd H9 l2 (.lst (rq.map V.str))) t (.tup [.str "send", .str x, .ref l2])) := sL.trans (same_new ht)
          have hl2' : (upd (upd H9 l2 (.lst (rq.map V.str))) t (.tup [.str "send", .str x, .ref l2])) l2 = some (.lst (rq.map V.str)) := same_new ht _ _ upd_same
          have ht' : (upd (upd H9 l2 (.lst (rq.map V.str))) t (.tup [.str "send", .str x, .ref l2])) t = some (.tup [.str "send", .str x, .ref l2]) := upd_same
          refine ⟨F, _, _, rfl, rfl, sT _ _ F9, small1000 (by rw [hal]; omega), ?_⟩
          generalize upd (upd H9 l2 (.lst (rq.map V.str))) t (.tup [.str "send", .str x, .ref l2]) = H10 at sT hl2' ht' ⊢
          have b11 : But (zz sd F C W) H10 (upd H10 F (.lst (as.map V.ref ++ [.ref t]))) := But.put (by simp [zz])
          have t11 := b11 _ _ tZ ht'
          have l11 := b11 _ _ l2Z hl2'
          have lq11 := b11 _ _ lZ (sT _ _ hl9)
          have F11 : (upd H10 F (.lst (as.map V.ref ++ [.ref t]))) F = some (.lst ((as ++ [t]).map V.ref)) := by rw [upd_same, List.map_append]; rfl
          have C11 : (upd H10 F (.lst (as.map V.ref ++ [.ref t]))) C = some (.dK kv1) := (upd_ne (Ne.symm QQ.fc)).trans (sT _ _ C9)
          have W11 : (upd H10 F (.lst (as.map V.ref ++ [.ref t]))) W = some (.lst (ws.map V.ref)) := (upd_ne (Ne.symm QQ.fw)).trans (sT _ _ W9)
          have S11 : SeedAt (upd H10 F (.lst (as.map V.ref ++ [.ref t]))) sd := by
            obtain ⟨a, b, c, h1, h2⟩ := S9
            exact ⟨a, b, c, (upd_ne (Ne.symm QQ.fs)).trans (sT _ _ h1), h2⟩
          have b10 := (b9.trans (But.same sT)).trans b11
          generalize upd H10 F (.lst (as.map V.ref ++ [.ref t])) = H11 at b10 t11 F11 C11 W11 S11 l11 lq11 ⊢
          clear b9 b11 sT hl2' ht' S9 C9 W9 F9 hl9 sL nZ hl2 ht
          -- waiting
          refine ⟨.ref W, rfl, .inl ⟨rfl, _, .inl (.inl W11)⟩, .ref lq, rfl, lq, rfl, ⟨_, ltI lq11⟩, fun D3 hD3 => lc_list (xs := rq.map V.str) (fun i H' => Same H11 H' ∧ ∃ ps : List Addr, H' D3 = some (.lst (ps.map V.ref)) ∧ ps.length = i ∧ ∀ (k : Nat) (p : Addr) (r : Str), ps[k]? = some p → rq[k]? = some r → PvZ (zz sd F C W) H' p r x ((((rsOf nodes es).sends x).length + 1 : Nat) : Int)) ?_ ?_ ?_ ?_⟩
          · exact ⟨same_new hD3, [], upd_same, rfl, fun k p r h1 => by simp at h1⟩
          · exact fun i H' _ hI => ltI (hI.1 _ _ lq11)
          · rintro i v H' hv ⟨sm, ps, hps, hpl, hpe⟩
            rw [List.getElem?_map] at hv
            obtain ⟨r, hr1, rfl⟩ := Option.map_eq_some_iff.mp hv
            refine ⟨by simp [wipe, List.set_set], ?_⟩
            dsimp only [tYes]
            rw [if_pos rfl]
            refine ⟨.str r, rfl, .str x, rfl, .ref C, rfl, .str x, rfl, C, .int ((((rsOf nodes es).sends x).length + 1 : Nat) : Int), rfl, ?_, by show 2 ≤ sizeLine; decide, fun p1 hp1 => ⟨by show 2 ≤ sizeLine; decide, fun p2 hp2 => ?_⟩⟩
            · rw [← hcv]
              exact DGet.k (k := Sum.inr x) (sm _ _ C11)
            have z1 : Same H' (upd H' p1 (.tup [.str x, .int ((((rsOf nodes es).sends x).length + 1 : Nat) : Int)])) := same_new hp1
            have z2 : Same (upd H' p1 (.tup [.str x, .int ((((rsOf nodes es).sends x).length + 1 : Nat) : Int)])) (upd (upd H' p1 (.tup [.str x, .int ((((rsOf nodes es).sends x).length + 1 : Nat) : Int)])) p2 (.tup [.str r, .ref p1])) := same_new hp2
            have nZ : ∀ {H2 : Hp} {a : Addr}, Same H11 H2 → H2 a = none → a ∉ zz sd F C W := fun {H2 a} sm ha => by
              simp only [zz, List.mem_cons, List.not_mem_nil, or_false]
              have hb := sm.free ha
              rintro (z | z | z | z)
              · obtain ⟨x, y, z', h1, h2⟩ := S11
                rw [z, h1] at hb; cases hb
              · rw [z, F11] at hb; cases hb
              · rw [z, C11] at hb; cases hb
              · rw [z, W11] at hb; cases hb
            have p1Z := nZ sm hp1
            have p2Z := nZ (sm.trans z1) hp2
            have hD4 := z2 _ _ (z1 _ _ hps)
            have hv1 := z2 _ _ (upd_same (H := H') (a := p1) (o := .tup [.str x, .int ((((rsOf nodes es).sends x).length + 1 : Nat) : Int)]))
            have hv2 := upd_same (H := upd H' p1 (.tup [.str x, .int ((((rsOf nodes es).sends x).length + 1 : Nat) : Int)])) (a := p2) (o := .tup [.str r, .ref p1])
            have sm2 := (sm.trans z1).trans z2
            refine ⟨ps.map V.ref, hD4, small1000 (by
              rw [List.length_map, hpl]
              have := (List.getElem?_eq_some_iff.mp hr1).1
              omega), same_put sm2 hD3, ps ++ [p2], by rw [upd_same, List.map_append]; rfl, by simp [hpl], fun k p r' h1 h2 => ?_⟩
            by_cases c : k < ps.length
            · rw [List.getElem?_append_left c] at h1
              exact ((hpe k p r' h1 h2).same (z1.trans z2)).put hD4
            · have hk : k = ps.length := by
                have := (List.getElem?_eq_some_iff.mp h1).1
                simp at this
                omega
              rw [hk, List.getElem?_append_right (Nat.le_refl _), Nat.sub_self] at h1
              cases h1
              rw [hk, hpl, hr1] at h2
              cases h2
              exact PvZ.put (a := p2) ⟨p1, p2Z, p1Z, hv2, hv1⟩ hD4
          · rintro H12 ⟨sm, ps, hps, hpl, hpe⟩
            rw [List.length_map] at hpl
            have hwl : (ws.map V.ref).length = pend.length := by rw [List.length_map, I15.wa]
            refine ⟨W, D3, _, _, rfl, rfl, sm _ _ W11, hps, ?_, ?_⟩
            · have h1 := I15.pl
              rw [hwl, List.length_map, hpl]
              exact Nat.le_trans (by omega : _ ≤ 100000) (by decide)
            have bW : But (zz sd F C W) H12 (upd H12 W (.lst (ws.map V.ref ++ ps.map V.ref))) := But.put (by simp [zz])
            have bb : But (zz sd F C W) H15 (upd H12 W (.lst (ws.map V.ref ++ ps.map V.ref))) := (b10.trans (But.same sm)).trans bW
            have I16 := I15.send (a := t) (ps := ps) QQ hxn hrb rnd rl bb ((upd_ne QQ.fw).trans (sm _ _ F11)) ((upd_ne QQ.cw).trans (sm _ _ (hkv ▸ C11))) (by rw [upd_same, List.map_append]) (by
                obtain ⟨a, b, c, h1, h2⟩ := S11
                exact ⟨a, b, c, (upd_ne (Ne.symm QQ.ws)).trans (sm _ _ h1), h2⟩) ⟨l2, tZ, l2Z, bW _ _ tZ (sm _ _ t11), bW _ _ l2Z (sm _ _ l11)⟩ hpl (fun k p r h1 h2 => (hpe k p r h1 h2).but bW)
            exact ⟨_, _, _, _, _, _, _, _, _, _, _, _, by simp; omega, I16, rfl⟩
    · rintro σ H4 ⟨es, as, pend, ws, kvs, y7, y8, y9, y10, y11, y12, y13, hle, I4, rfl⟩
      refine ⟨.ref F, rfl, ?_⟩
      exact q H4 F as es I4.base I4.s QQ.nF ⟨I4.f, I4.ea, fun i a e h1 h2 => (I4.ev i a e h1 h2).at'⟩ (by omega) I4.m.ok QQ.fs
end
end KA

set_option Elab.async false
set_option linter.all false
set_option maxRecDepth 100000
set_option maxHeartbeats 4000000
namespace KA
open PySem PySem.Spec PyProof.Rows L2 L2.Dx Kx
theorem upto_none {nodes : List Str} {es : List Ev} {k : Nat} (h : es[k]? = none) : Rs.upto nodes es (k + 1) = Rs.upto nodes es k := by
  show (match es[k]? with | some e => (Rs.upto nodes es k).next nodes k e | none => Rs.upto nodes es k) = _
  rw [h]
/-! ### sums over the sends -/
def Ev.isSnd : Ev → Bool
  | .snd _ _ => true
  | .opn _ _ _ => false
def sumS (nodes : List Str) (S : Str → List Nat) (f : Nat → Nat) : Nat := (nodes.map fun x => ((S x).map f).sum).sum
def sndSum (es : List Ev) (f : Nat → Nat) : Nat → Nat
  | 0 => 0
  | k + 1 => sndSum es f k + (match es[k]? with
    | some (.snd _ _) => f k
    | _ => 0)
theorem sum_upd {S : Str → List Nat} {x : Str} {k : Nat} {f : Nat → Nat} : ∀ {nodes : List Str}, nodes.Nodup → x ∈ nodes → (nodes.map fun y => ((if y = x then S x ++ [k] else S y).map f).sum).sum = (nodes.map fun y => ((S y).map f).sum).sum + f k
  | y :: r, nd, hx => by
    rw [List.nodup_cons] at nd
    simp only [List.map_cons, List.sum_cons]
    by_cases e : y = x
    · subst e
      have : (r.map fun z => ((if z = y then S y ++ [k] else S z).map f).sum) = r.map fun z => ((S z).map f).sum := List.map_congr_left fun z hz => by
        rw [if_neg fun (e : z = y) => nd.1 (by rw [← e]; exact hz)]
      rw [this, if_pos rfl]
      simp
      omega
    · rw [if_neg e, sum_upd nd.2 ((List.mem_cons.mp hx).resolve_left fun z => e z.symm)]
      omega
theorem sum_zero : ∀ (l : List Str), (l.map fun _ => 0).sum = 0
  | [] => rfl
  | a :: r => by
    show 0 + (r.map fun _ => 0).sum = 0
    rw [sum_zero r]
theorem sum_one : ∀ (l : List Msg), (l.map fun _ => 1).sum = l.length
  | [] => rfl
  | a :: r => by
    show 1 + (r.map fun _ => 1).sum = r.length + 1
    rw [sum_one r, Nat.add_comm]
theorem sumS_eq {nodes : List Str} {es : List Ev} {f : Nat → Nat} (nd : nodes.Nodup) : ∀ {k : Nat}, OkTo nodes es k → sumS nodes (Rs.upto nodes es k).sends f = sndSum es f k
  | 0, _ => by
    show (nodes.map fun _ => 0).sum = 0
    exact sum_zero nodes
  | k + 1, ok => by
    have ih := sumS_eq (nodes := nodes) (es := es) (f := f) nd (k := k) fun j hj => ok j (by omega)
    show _ = sndSum es f k + _
    cases hk : es[k]? with
    | none =>
      rw [upto_none hk, ih]
      rfl
    | some e =>
      rw [upto_succ hk, ← ih]
      cases e with
      | opn x s n => rfl
      | snd x rs =>
        have hx : x ∈ nodes := (ok k (by omega) _ hk).1
        exact sum_upd (S := (Rs.upto nodes es k).sends) (k := k) (f := f) nd hx
theorem all_sum {S : Str → List Nat} {f : Nat → Nat} : ∀ {nodes : List Str}, ((allMsgs nodes S).map fun t => f t.2.2).sum = sumS nodes S f
  | [] => rfl
  | x :: r => by
    have ih := @all_sum S f r
    have h1 : ∀ (l : List Nat) (k : Nat), ((numFrom k l).map fun p => f p.2).sum = (l.map f).sum := fun l => by
      induction l with
      | nil => intro k; rfl
      | cons a t iht =>
        intro k
        show f a + ((numFrom (k + 1) t).map fun p => f p.2).sum = _
        rw [iht (k + 1)]
        rfl
    unfold allMsgs sumS at ih ⊢
    rw [List.flatMap_cons, List.map_append, List.sum_append, ih]
    unfold msgsOf
    rw [List.map_map]
    show ((numFrom 1 (S x)).map fun p => f p.2).sum + _ = _
    rw [h1]
    rfl
theorem all_len {S : Str → List Nat} {nodes : List Str} : (allMsgs nodes S).length = sumS nodes S fun _ => 1 := by
  rw [← all_sum]
  exact (sum_one _).symm
/-! ### what is found at the end -/
theorem sends_pre {nodes : List Str} {es : List Ev} {x : Str} {i : Nat} : ∀ {m : Nat}, ∃ t, (Rs.upto nodes es (i + m)).sends x = (Rs.upto nodes es i).sends x ++ t
  | 0 => ⟨[], by simp⟩
  | m + 1 => by
    obtain ⟨t, ht⟩ := @sends_pre nodes es x i m
    cases hk : es[i + m]? with
    | none => exact ⟨t, by rw [show i + (m + 1) = i + m + 1 from rfl, upto_none hk]; exact ht⟩
    | some e =>
      rw [show i + (m + 1) = i + m + 1 from rfl, upto_succ hk]
      cases e with
      | opn y s n => exact ⟨t, ht⟩
      | snd y rs =>
        show ∃ t, (if x = y then (Rs.upto nodes es (i + m)).sends y ++ [i + m] else (Rs.upto nodes es (i + m)).sends x) = _
        by_cases c : x = y
        · subst c
          rw [if_pos rfl, ht]
          exact ⟨t ++ [i + m], by simp⟩
        · rw [if_neg c]
          exact ⟨t, ht⟩
theorem sent_last {nodes : List Str} {es : List Ev} {x : Str} {rs : List Str} {i : Nat} (ok : RunOk nodes es) (he : es[i]? = some (.snd x rs)) :
    sentAt (rsOf nodes es) nodes x ((((Rs.upto nodes es i).sends x).length + 1 : Nat) : Int) = some i := by
  have hi := (List.getElem?_eq_some_iff.mp he).1
  have hx : x ∈ nodes := (ok i hi _ he).1
  obtain ⟨t, ht⟩ := @sends_pre nodes es x (i + 1) (es.length - (i + 1))
  rw [show i + 1 + (es.length - (i + 1)) = es.length by omega, upto_succ he] at ht
  have ht : (rsOf nodes es).sends x = (if x = x then (Rs.upto nodes es i).sends x ++ [i] else (Rs.upto nodes es i).sends x) ++ t := ht
  rw [if_pos rfl] at ht
  unfold sentAt
  rw [if_pos ⟨hx, by omega⟩, ht, show (((((Rs.upto nodes es i).sends x).length + 1 : Nat) : Int) - 1).toNat = ((Rs.upto nodes es i).sends x).length by omega]
  simp
theorem opens_nd {nodes : List Str} {es : List Ev} {x : Str} : ∀ {k : Nat}, OkTo nodes es k → (((Rs.upto nodes es k).opens x).map (·.1)).Nodup
  | 0, _ => List.nodup_nil
  | k + 1, ok => by
    have ih := @opens_nd nodes es x k fun j hj => ok j (by omega)
    cases hk : es[k]? with
    | none => rw [upto_none hk]; exact ih
    | some e =>
      rw [upto_succ hk]
      cases e with
      | snd y rs => exact ih
      | opn y s n =>
        show ((if x = y then (Rs.upto nodes es k).opens y ++ [((sentAt (Rs.upto nodes es k) nodes s n).getD 0, k)] else (Rs.upto nodes es k).opens x).map (·.1)).Nodup
        by_cases c : x = y
        · subst c
          obtain ⟨j, h1, h2, h3⟩ := ok k (by omega) _ hk
          rw [if_pos rfl, h1, List.map_append, List.nodup_append]
          refine ⟨ih, by simp, fun a ha b hb e => ?_⟩
          obtain ⟨p, hp, rfl⟩ := List.mem_map.mp ha
          rw [List.all_eq_true] at h3
          have := h3 p hp
          simp at hb this
          exact this (e.trans hb)
        · rw [if_neg c]
          exact ih
theorem valV_ops_at {j i : Nat} : ∀ {l : List (Nat × Nat)}, (l.map (·.1)).Nodup → (j, i) ∈ l → valV (ops l) (.inl ((j : Nat) : Int)) = some (.int (i : Nat))
  | p :: r, nd, h => by
    rw [List.map_cons, List.nodup_cons] at nd
    show valV ((Sum.inl ((p.1 : Nat) : Int), V.int (p.2 : Nat)) :: ops r) _ = _
    rcases List.mem_cons.mp h with e | h
    · cases e
      exact valV_pos rfl
    · have : p.1 ≠ j := fun z => nd.1 (by rw [z]; exact List.mem_map.mpr ⟨_, h, rfl⟩)
      rw [valV_neg (fun z => this (Int.ofNat.inj (Sum.inl.inj z)))]
      exact valV_ops_at nd.2 h
theorem cnt_next {nodes : List Str} {es : List Ev} {kvs : List (Key × V)} {i : Nat} {x : Str} {rs : List Str} (he : es[i]? = some (.snd x rs)) (h : CntAt kvs (Rs.upto nodes es i).sends) :
    CntAt (putK kvs (.inr x) (.int (((Rs.upto nodes es i).sends x).length + 1 : Nat))) (Rs.upto nodes es (i + 1)).sends := fun y => by
  rw [valV_put, upto_succ he]
  show _ = if (if y = x then (Rs.upto nodes es i).sends x ++ [i] else (Rs.upto nodes es i).sends y).length = 0 then none else some (V.int (((if y = x then (Rs.upto nodes es i).sends x ++ [i] else (Rs.upto nodes es i).sends y).length : Nat) : Int))
  by_cases c : y = x
  · subst c
    rw [if_pos rfl, if_pos rfl, if_neg (by simp)]
    simp
  · rw [if_neg (fun z => c (Sum.inr.inj z)), if_neg c]
    exact h y
theorem cnt_get {S : Str → List Nat} {kvs : List (Key × V)} {x : Str} (h : CntAt kvs S) : (valV kvs (.inr x)).getD (.int 0) = .int ((S x).length : Nat) := by
  rw [h x]
  by_cases c : (S x).length = 0
  · rw [if_pos c, c]
    rfl
  · rw [if_neg c]
    rfl
/-! ### the nodes of the law -/
def nameB (z : Str) : Bool := decide (1 ≤ z.length) && decide (z.length ≤ 8) && z.cps.toList.all fun c => decide (97 ≤ c) && decide (c ≤ 122)
def ascB : List Str → Bool
  | a :: b :: r => decide (ltS a b) && ascB (b :: r)
  | _ => true
theorem ascB_pw : ∀ {ns : List Str}, ascB ns = true → ns.Pairwise ltS
  | [], _ => .nil
  | [a], _ => List.pairwise_singleton _ _
  | a :: b :: r, h => by
    have h : (decide (ltS a b) && ascB (b :: r)) = true := h
    rw [Bool.and_eq_true, decide_eq_true_eq] at h
    have ih := ascB_pw h.2
    refine .cons (fun y hy => ?_) ih
    rcases List.mem_cons.mp hy with rfl | hy
    · exact h.1
    · cases ih with
      | cons k _ => exact List.lt_trans h.1 (k y hy)
theorem nodesOk_by {ns : List Str} (h : (decide (2 ≤ ns.length) && decide (ns.length ≤ 12) && ns.all nameB && ascB ns) = true) : NodesOk ns := by
  simp only [Bool.and_eq_true, decide_eq_true_eq, List.all_eq_true] at h
  obtain ⟨⟨⟨h1, h2⟩, h3⟩, h4⟩ := h
  refine ⟨h1, h2, fun z hz => ?_, ascB_pw h4⟩
  have := h3 z hz
  unfold nameB at this
  simp only [Bool.and_eq_true, decide_eq_true_eq, List.all_eq_true] at this
  exact ⟨this.1.1, this.1.2, this.2⟩
abbrev nm (c : Nat) : Str := ("n" : Str) ++ ⟨#[c]⟩
def namesOf (x : Str) : List Str := x.cps.toList.map nm
theorem names_ok : ∀ r : Int, 0 ≤ r → r < 7 → NodesOk (namesOf (cutS ("abcdefghijkl" : Str) none (some (6 + r)))) := fun r h0 h1 => by
  have : r = 0 ∨ r = 1 ∨ r = 2 ∨ r = 3 ∨ r = 4 ∨ r = 5 ∨ r = 6 := by omega
  rcases this with rfl | rfl | rfl | rfl | rfl | rfl | rfl <;> exact nodesOk_by (by decide +kernel)
end KA

set_option Elab.async false
set_option linter.all false
set_option maxRecDepth 100000
set_option maxHeartbeats 4000000
namespace L2.Dx
open PySem PySem.Spec PyProof.Rows L2
/-- a list comprehension over a text's signs -/
theorem lc_its {x : Str} {g : TG} {tt : TT} {te : TE} {vs : List Nat} {σ : St} {H1 : Hp} {D : Addr} {Qd : Hp → Prop} (Pv : Nat → Hp → Prop) (h0 : Pv 0 (upd H1 D (.lst [])))
    (hs : ∀ i c H, x.cps[i]? = some c → Pv i H → g (.str ⟨#[c]⟩) (wipe σ vs) H fun σ2 H2 => wipe σ2 vs = wipe σ vs ∧ tt σ2 H2 fun b H3 =>
      if b = true then te σ2 H3 fun y H4 => ∃ acc, H4 D = some (.lst acc) ∧ acc.length < sizeLine ∧ Pv (i + 1) (upd H4 D (.lst (acc ++ [y]))) else Pv (i + 1) H3) (hd : ∀ H, Pv x.cps.size H → Qd H) :
    ∃ W : Nat → Nat → Hp → Prop, (∃ m, W 0 m (upd H1 D (.lst []))) ∧ ∀ i m H, W i m H →
      ((Its x).stop i H ∧ Qd H) ∨ ((Its x).go i H ∧ ∃ Nx : Hp → Prop, (∀ H', Nx H' → ∃ m', m' < m ∧ W (i + 1) m' H') ∧ ∀ v H', (Its x).yld i H v H' → g v (wipe σ vs) H' fun σ2 H2 => wipe σ2 vs = wipe σ vs ∧ tt σ2 H2 fun b H3 =>
        if b = true then te σ2 H3 fun y H4 => ∃ acc, H4 D = some (.lst acc) ∧ acc.length < sizeLine ∧ Nx (upd H4 D (.lst (acc ++ [y]))) else Nx H3) := by
  refine ⟨fun i m H => m = x.cps.size - i ∧ i ≤ x.cps.size ∧ Pv i H, ⟨_, rfl, Nat.zero_le _, h0⟩, fun i m H ⟨em, hi, p⟩ => ?_⟩
  subst em
  rcases Nat.lt_or_ge i x.cps.size with lt | ge
  · refine .inr ⟨lt, Pv (i + 1), fun H' p' => ⟨_, by omega, rfl, lt, p'⟩, fun v H' ⟨e, c, hc, ev⟩ => ?_⟩
    subst e ev
    exact hs i c _ hc p
  · have e : x.cps.size = i := Nat.le_antisymm ge hi
    subst e
    exact .inl ⟨Nat.le_refl _, hd H p⟩
/-- .. over a locked dict's tuple keys -/
theorem lc_keysT {d : Addr} {o : Obj} {kvs : List (List Key × V)} {g : TG} {tt : TT} {te : TE} {vs : List Nat} {σ : St} {H1 : Hp} {D : Addr} {Qd : Hp → Prop} (Pv : Nat → Hp → Prop) (h0 : Pv 0 (upd H1 D (.lst []))) (hl : ∀ i H, i ≤ kvs.length → Pv i H → H d = some (.frz o (.dT kvs)))
    (hs : ∀ i k v q H, kvs[i]? = some (k, v) → H q = some (.tup (k.map kV)) → Pv i H → g (.ref q) (wipe σ vs) H fun σ2 H2 => wipe σ2 vs = wipe σ vs ∧ tt σ2 H2 fun b H3 =>
      if b = true then te σ2 H3 fun y H4 => ∃ acc, H4 D = some (.lst acc) ∧ acc.length < sizeLine ∧ Pv (i + 1) (upd H4 D (.lst (acc ++ [y]))) else Pv (i + 1) H3) (hd : ∀ H, Pv kvs.length H → Qd H) :
    ∃ W : Nat → Nat → Hp → Prop, (∃ m, W 0 m (upd H1 D (.lst []))) ∧ ∀ i m H, W i m H →
      ((Itkt d o kvs).stop i H ∧ Qd H) ∨ ((Itkt d o kvs).go i H ∧ ∃ Nx : Hp → Prop, (∀ H', Nx H' → ∃ m', m' < m ∧ W (i + 1) m' H') ∧ ∀ v H', (Itkt d o kvs).yld i H v H' → g v (wipe σ vs) H' fun σ2 H2 => wipe σ2 vs = wipe σ vs ∧ tt σ2 H2 fun b H3 =>
        if b = true then te σ2 H3 fun y H4 => ∃ acc, H4 D = some (.lst acc) ∧ acc.length < sizeLine ∧ Nx (upd H4 D (.lst (acc ++ [y]))) else Nx H3) := by
  refine ⟨fun i m H => m = kvs.length - i ∧ i ≤ kvs.length ∧ Pv i H, ⟨_, rfl, Nat.zero_le _, h0⟩, fun i m H ⟨em, hi, p⟩ => ?_⟩
  subst em
  rcases Nat.lt_or_ge i kvs.length with lt | ge
  · refine .inr ⟨⟨hl i H hi p, lt⟩, Pv (i + 1), fun H' p' => ⟨_, by omega, rfl, lt, p'⟩, fun w H' ⟨e, k, v, q, hk, ew, hq⟩ => ?_⟩
    subst e ew
    exact hs i k v q _ hk hq p
  · have e : kvs.length = i := Nat.le_antisymm ge hi
    subst e
    exact .inl ⟨⟨hl _ H hi p, Nat.le_refl _⟩, hd H p⟩
end L2.Dx
namespace KA
open PySem PySem.Spec PyProof.Rows L2 L2.Dx Kx
def sndIx (es : List Ev) : Nat → List Nat
  | 0 => []
  | k + 1 => sndIx es k ++ (match es[k]? with
    | some (.snd _ _) => [k]
    | _ => [])
theorem sndIx_sum {es : List Ev} {f : Nat → Nat} : ∀ k, ((sndIx es k).map f).sum = sndSum es f k
  | 0 => rfl
  | k + 1 => by
    show ((sndIx es k ++ _).map f).sum = sndSum es f k + _
    rw [List.map_append, List.sum_append, sndIx_sum k]
    cases es[k]? with
    | none => rfl
    | some e => cases e <;> simp
theorem sndIx_len {es : List Ev} : ∀ k, (sndIx es k).length = sndSum es (fun _ => 1) k
  | 0 => rfl
  | k + 1 => by
    show (sndIx es k ++ _).length = sndSum es (fun _ => 1) k + _
    rw [List.length_append, sndIx_len k]
    cases es[k]? with
    | none => rfl
    | some e => cases e <;> rfl
theorem sndIx_le {es : List Ev} : ∀ k, (sndIx es k).length ≤ k
  | 0 => Nat.le_refl _
  | k + 1 => by
    have := @sndIx_le es k
    show (sndIx es k ++ _).length ≤ k + 1
    rw [List.length_append]
    have h2 : ((match es[k]? with
      | some (.snd _ _) => [k]
      | _ => [] : List Nat)).length ≤ 1 := by
      cases es[k]? with
      | none => simp
      | some e => cases e <;> simp
    omega
theorem sndIx_mem {es : List Ev} {j : Nat} : ∀ {k}, j ∈ sndIx es k → ∃ x rs, es[j]? = some (.snd x rs)
  | 0, h => nomatch h
  | k + 1, h => by
    have h : j ∈ sndIx es k ++ _ := h
    rcases List.mem_append.mp h with h | h
    · exact sndIx_mem h
    · cases hk : es[k]? with
      | none => rw [hk] at h; cases h
      | some e =>
        rw [hk] at h
        cases e with
        | opn x s n => cases h
        | snd x rs =>
          cases List.mem_singleton.mp h
          exact ⟨x, rs, hk⟩
theorem key_inj {nodes : List Str} {S : Str → List Nat} {t u : Msg} (ht : t ∈ allMsgs nodes S) (hu : u ∈ allMsgs nodes S) (e : keyOf t = keyOf u) : t = u := by
  obtain ⟨_, a1, a2, a3⟩ := all_mem ht
  obtain ⟨_, b1, b2, b3⟩ := all_mem hu
  have e1 : t.1 = u.1 := Sum.inr.inj (List.cons.inj e).1
  have e2 : t.2.1 = u.2.1 := Int.ofNat.inj (Sum.inl.inj (List.cons.inj (List.cons.inj e).2).1)
  rw [e1, e2, b3] at a3
  have e3 := Option.some.inj a3
  obtain ⟨x, k, j⟩ := t
  obtain ⟨y, l, m⟩ := u
  simp only at e1 e2 e3
  rw [e1, e2, e3]
theorem valT_in {h : Msg → V} {t : Msg} : ∀ {L : List Msg}, t ∈ L → (∀ u ∈ L, keyOf t = keyOf u → t = u) → valV (L.map fun t => (keyOf t, h t)) (keyOf t) = some (h t)
  | u :: r, ht, inj => by
    rw [List.map_cons]
    by_cases e : keyOf u = keyOf t
    · rw [valV_pos e, inj u List.mem_cons_self e.symm]
    · rw [valV_neg e]
      exact valT_in ((List.mem_cons.mp ht).resolve_left fun z => e (by rw [z])) fun v hv => inj v (List.mem_cons_of_mem _ hv)
theorem cast_sum {α : Type} {f : α → Nat} : ∀ (l : List α), (l.map fun t => ((f t : Nat) : Int)).sum = (((l.map f).sum : Nat) : Int)
  | [] => rfl
  | a :: r => by
    rw [List.map_cons, List.sum_cons, cast_sum r, List.map_cons, List.sum_cons]
    omega
theorem sq_move {K : PySem.W.Frag} {H H' : Hp} {a : Addr} {xs : List V} (h : SqL K H a xs) (t : ∀ o, H a = some o → H' a = some o) : SqL K H' a xs := by
  rcases h with (h | ⟨o, h⟩) | h
  · exact .inl (.inl (t _ h))
  · exact .inl (.inr ⟨o, t _ h⟩)
  · exact .inr h
end KA

set_option Elab.async false
set_option linter.all false
set_option maxRecDepth 100000
set_option maxHeartbeats 4000000
namespace L2.Dx
open PySem PySem.Spec PyProof.Rows L2
/-! what a value reads as, no dict of it the modules' own -/
mutual
inductive RdX (h : Heap) : Value → PyData → Prop
  | none : RdX h .none .none
  | bool (b) : RdX h (.bool b) (.bool b)
  | int (i t) : RdX h (.int i t) (.int i)
  | str (x t) : RdX h (.str x t) (.str x)
  | list {a o vs n xs} : h.get? a = some o → o.cls = .type "list" → o.data = .seq vs n → RdXs h vs.toList xs → RdX h (.ref a) (.list xs)
  | tuple {a o vs n xs} : h.get? a = some o → o.cls = .type "tuple" → o.data = .seq vs n → RdXs h vs.toList xs → RdX h (.ref a) (.tuple xs)
  | dict {a o es n kvs} : h.get? a = some o → o.cls = .type "dict" → o.data = .dict es n → (a == sysModules) = false → RdXs h (es.toList.map (·.key)) (kvs.map (·.1)) → RdXs h (es.toList.map (·.val)) (kvs.map (·.2)) → RdX h (.ref a) (.dict kvs)
inductive RdXs (h : Heap) : List Value → List PyData → Prop
  | nil : RdXs h [] []
  | cons {v vs d ds} : RdX h v d → RdXs h vs ds → RdXs h (v :: vs) (d :: ds)
end
mutual
theorem RdX.reads {h : Heap} : ∀ {v : Value} {d : PyData}, RdX h v d → ∃ as, Reads h v d as
  | _, _, .none => ⟨_, .none⟩
  | _, _, .bool b => ⟨_, .bool b⟩
  | _, _, .int i t => ⟨_, .int i t⟩
  | _, _, .str x t => ⟨_, .str x t⟩
  | _, _, .list h1 h2 h3 h4 => (RdXs.reads h4).elim fun _ k => ⟨_, .list h1 h2 h3 k⟩
  | _, _, .tuple h1 h2 h3 h4 => (RdXs.reads h4).elim fun _ k => ⟨_, .tuple h1 h2 h3 k⟩
  | _, _, .dict h1 h2 h3 _ h4 h5 => (RdXs.reads h4).elim fun _ k => (RdXs.reads h5).elim fun _ l => ⟨_, .dict h1 h2 h3 k l⟩
theorem RdXs.reads {h : Heap} : ∀ {vs : List Value} {ds : List PyData}, RdXs h vs ds → ∃ as, ReadsAll h vs ds as
  | _, _, .nil => ⟨_, .nil⟩
  | _, _, .cons r rs => (RdX.reads r).elim fun _ k => (RdXs.reads rs).elim fun _ l => ⟨_, .cons k l⟩
end
section
variable {prog : Program} {w : World} {h₀ : Heap}
mutual
theorem reprX : ∀ {v : Value} {d : PyData}, RdX h₀ v d → d.showable = true → d.shown.length ≤ sizeLine → ∃ bs, ReadAtMost h₀ d.depth bs ∧ ReprK prog w bs h₀ d.depth v d.shown
  | _, _, .none, _, _ => ⟨[], (fun _ z => nomatch z), by simp only [PyData.shown]; exact .of_is ReprIs.none _ _ _⟩
  | _, _, .bool b, _, _ => ⟨[], (fun _ z => nomatch z), by simp only [PyData.shown]; exact .of_is (ReprIs.bool b) _ _ _⟩
  | _, _, .int i t, hs, _ => ⟨[], (fun _ z => nomatch z), by simp only [PyData.shown]; exact .of_is (ReprIs.int t (by simpa [PyData.showable] using hs)) _ _ _⟩
  | _, _, .str x t, _, hz => ⟨[], (fun _ z => nomatch z), by simp only [PyData.shown]; exact .of_is (ReprIs.str x t (by simpa only [PyData.shown] using hz)) _ _ _⟩
  | _, _, .list (a := a) (vs := vs) (xs := xs) h1 h2 h3 h4, hs, hz => by
    have fit : (listText (PyData.shownAll xs)).length ≤ sizeLine := by simpa only [PyData.shown] using hz
    obtain ⟨bs, hb, hk⟩ := reprXs h4 (by simpa [PyData.showable] using hs) fun t ht => Nat.le_trans (listText_mem_le ht) fit
    obtain ⟨_, r⟩ := (RdX.list h1 h2 h3 h4).reads
    have out : a ∉ bs := not_mem_of_deeper r (by simp only [PyData.depth]; omega) hb
    refine ⟨a :: bs, ReadAtMost.cons r (by simp only [PyData.depth]; omega) hb, ?_⟩
    simp only [PyData.depth, PyData.shown]
    obtain ⟨l⟩ := vs
    cases l with
    | nil =>
      cases (show RdXs h₀ [] xs from h4)
      simp only [PyData.shownAll, listText_nil]
      exact ReprK.listEmpty h1 h2 h3
    | cons x l => exact ReprK.list h1 h2 h3 out (by simpa using hk.length_eq) fun i y e => hk.item i y (by simpa using e)
  | _, _, .tuple (a := a) (xs := xs) h1 h2 h3 h4, hs, hz => by
    have fit : (tupleText (PyData.shownAll xs)).length ≤ sizeLine := by simpa only [PyData.shown] using hz
    obtain ⟨bs, hb, hk⟩ := reprXs h4 (by simpa [PyData.showable] using hs) fun t ht => Nat.le_trans (tupleText_mem_le ht) fit
    obtain ⟨_, r⟩ := (RdX.tuple h1 h2 h3 h4).reads
    have out : a ∉ bs := not_mem_of_deeper r (by simp only [PyData.depth]; omega) hb
    refine ⟨a :: bs, ReadAtMost.cons r (by simp only [PyData.depth]; omega) hb, ?_⟩
    simp only [PyData.depth, PyData.shown]
    exact ReprK.tuple h1 h2 h3 out hk
  | _, _, .dict (a := a) (es := es) (kvs := kvs) h1 h2 h3 hsys h4 h5, hs, hz => by
    have fit : (dictText (PyData.shownKv kvs)).length ≤ sizeLine := by simpa only [PyData.shown] using hz
    obtain ⟨s1, s2⟩ := PyData.showableKv_split kvs (by simpa [PyData.showable] using hs)
    obtain ⟨b1, hb1, k1⟩ := reprXs h4 s1 fun t ht => (PyData.shownKv_key_le kvs t ht).elim fun p z => Nat.le_trans z.2 (Nat.le_trans (dictText_mem_le z.1) fit)
    obtain ⟨b2, hb2, k2⟩ := reprXs h5 s2 fun t ht => (PyData.shownKv_val_le kvs t ht).elim fun p z => Nat.le_trans z.2 (Nat.le_trans (dictText_mem_le z.1) fit)
    obtain ⟨_, r⟩ := (RdX.dict h1 h2 h3 hsys h4 h5).reads
    have hb : ReadAtMost h₀ (PyData.depthKv kvs) (b1 ++ b2) := (hb1.mono (PyData.depthAll_keys_le kvs)).append (hb2.mono (PyData.depthAll_vals_le kvs))
    have out : a ∉ b1 ++ b2 := not_mem_of_deeper r (by simp only [PyData.depth]; omega) hb
    refine ⟨a :: (b1 ++ b2), ReadAtMost.cons r (by simp only [PyData.depth]; omega) hb, ?_⟩
    simp only [PyData.depth, PyData.shown, PyData.shownKv_eq]
    exact ReprK.dict h1 h2 h3 hsys out (ReprEntriesK.of_two es.toList _ _ (k1.more_le (fun b z => List.mem_append_left _ z) (PyData.depthAll_keys_le kvs)) (k2.more_le (fun b z => List.mem_append_right _ z) (PyData.depthAll_vals_le kvs)))
theorem reprXs : ∀ {vs : List Value} {ds : List PyData}, RdXs h₀ vs ds → PyData.showableAll ds = true → (∀ t ∈ PyData.shownAll ds, t.length ≤ sizeLine) → ∃ bs, ReadAtMost h₀ (PyData.depthAll ds) bs ∧ ReprAllK prog w bs h₀ (PyData.depthAll ds) vs (PyData.shownAll ds)
  | _, _, .nil, _, _ => ⟨[], (fun _ z => nomatch z), by simp only [PyData.shownAll]; exact .nil⟩
  | _, _, .cons (d := d) (ds := ds) r rs, hs, hz => by
    obtain ⟨s1, s2⟩ : d.showable = true ∧ PyData.showableAll ds = true := by simpa [PyData.showableAll] using hs
    obtain ⟨b1, hb1, k1⟩ := reprX r s1 (hz _ (by simp only [PyData.shownAll]; exact List.mem_cons_self ..))
    obtain ⟨b2, hb2, k2⟩ := reprXs rs s2 fun t ht => hz t (by simp only [PyData.shownAll]; exact List.mem_cons_of_mem _ ht)
    refine ⟨b1 ++ b2, fun b hm => ?_, ?_⟩
    · simp only [PyData.depthAll]
      rcases List.mem_append.mp hm with hm | hm
      · exact (hb1 b hm).elim fun d' ⟨as', r', z⟩ => ⟨d', as', r', Nat.le_trans z (Nat.le_max_left _ _)⟩
      · exact (hb2 b hm).elim fun d' ⟨as', r', z⟩ => ⟨d', as', r', Nat.le_trans z (Nat.le_max_right _ _)⟩
    · simp only [PyData.depthAll, PyData.shownAll]
      exact .cons ((k1.more fun b z => List.mem_append_left _ z).level_le (Nat.le_max_left _ _)) (k2.more_le (fun b z => List.mem_append_right _ z) (Nat.le_max_right _ _))
end
theorem showsX {a : Addr} {d : PyData} (r : RdX h₀ (.ref a) d) (hs : d.showable = true) (hsz : d.shown.length ≤ sizeLine) : ∃ T idr, ShowsBy prog w h₀ a d T idr := by
  obtain ⟨_, rr⟩ := r.reads
  cases r with
  | @list _ o vs n xs h1 h2 h3 h4 =>
    have fit : (listText (PyData.shownAll xs)).length ≤ sizeLine := by simpa only [PyData.shown] using hsz
    obtain ⟨bs, hb, hk⟩ := reprXs (prog := prog) (w := w) h4 (by simpa [PyData.showable] using hs) fun t ht => Nat.le_trans (listText_mem_le ht) fit
    have out : a ∉ bs := not_mem_of_deeper rr (by simp only [PyData.depth]; omega) hb
    refine ⟨"list", "list.__repr__", F.slot_list_repr.toG, F.slot_list_str, F.slot_list_format, fun s hk0 => ⟨o, hk0 _ _ h1, h2⟩, fun A E s Q hg hu hk0 hQ => ?_⟩
    simp only [PyData.depth] at hu
    simp only [PyData.shown] at hQ
    obtain ⟨l⟩ := vs
    cases l with
    | nil =>
      cases (show RdXs h₀ [] xs from h4)
      simp only [PyData.shownAll, listText_nil] at hQ
      exact call_list_repr_empty ⟨o, hk0 _ _ h1, h2⟩ (hk0 _ _ h1) h3 (hQ s.heap _ _ fun _ _ e => e)
    | cons x l => exact call_list_reprK h1 h2 h3 out (by simpa using hk.length_eq) (fun i y e => hk.item i y (by simpa using e)) hg (fun b _ => Clear.nil b) hu hk0 hQ fit
  | @tuple _ o vs n xs h1 h2 h3 h4 =>
    have fit : (tupleText (PyData.shownAll xs)).length ≤ sizeLine := by simpa only [PyData.shown] using hsz
    obtain ⟨bs, hb, hk⟩ := reprXs (prog := prog) (w := w) h4 (by simpa [PyData.showable] using hs) fun t ht => Nat.le_trans (tupleText_mem_le ht) fit
    have out : a ∉ bs := not_mem_of_deeper rr (by simp only [PyData.depth]; omega) hb
    refine ⟨"tuple", "tuple.__repr__", F.slot_tuple_repr, F.slot_tuple_str, F.slot_tuple_format, fun s hk0 => ⟨o, hk0 _ _ h1, h2⟩, fun A E s Q hg hu hk0 hQ => ?_⟩
    simp only [PyData.depth] at hu
    simp only [PyData.shown] at hQ
    exact call_tuple_reprK h1 h2 h3 out hk hg (fun b _ => Clear.nil b) hu hk0 hQ fit
  | @dict _ o es n kvs h1 h2 h3 hsys h4 h5 =>
    have fit : (dictText (PyData.shownKv kvs)).length ≤ sizeLine := by simpa only [PyData.shown] using hsz
    obtain ⟨s1, s2⟩ := PyData.showableKv_split kvs (by simpa [PyData.showable] using hs)
    obtain ⟨b1, hb1, k1⟩ := reprXs (prog := prog) (w := w) h4 s1 fun t ht => (PyData.shownKv_key_le kvs t ht).elim fun p z => Nat.le_trans z.2 (Nat.le_trans (dictText_mem_le z.1) fit)
    obtain ⟨b2, hb2, k2⟩ := reprXs (prog := prog) (w := w) h5 s2 fun t ht => (PyData.shownKv_val_le kvs t ht).elim fun p z => Nat.le_trans z.2 (Nat.le_trans (dictText_mem_le z.1) fit)
    have hb : ReadAtMost h₀ (PyData.depthKv kvs) (b1 ++ b2) := (hb1.mono (PyData.depthAll_keys_le kvs)).append (hb2.mono (PyData.depthAll_vals_le kvs))
    have out : a ∉ b1 ++ b2 := not_mem_of_deeper rr (by simp only [PyData.depth]; omega) hb
    refine ⟨"dict", "dict.__repr__", F.slot_dict_repr, F.slot_dict_str, F.slot_dict_format, fun s hk0 => ⟨o, hk0 _ _ h1, h2⟩, fun A E s Q hg hu hk0 hQ => ?_⟩
    simp only [PyData.depth] at hu
    simp only [PyData.shown, PyData.shownKv_eq] at hQ
    exact call_dict_reprK h1 h2 h3 hsys out (ReprEntriesK.of_two es.toList _ _ (k1.more_le (fun b z => List.mem_append_left _ z) (PyData.depthAll_keys_le kvs)) (k2.more_le (fun b z => List.mem_append_right _ z) (PyData.depthAll_vals_le kvs))) hg (fun b _ => Clear.nil b) hu hk0 hQ (by rw [← PyData.shownKv_eq]; exact fit)
theorem call_reprX {A : Around} {E : Value → Shared → Prop} {s : Shared} {Q : Value → Shared → Prop} {a : Addr} {d : PyData} (r : RdX s.heap (.ref a) d) (hs : d.showable = true) (hg : A.guards = some []) (hu : A.units + (d.depth + 1) < cLine)
    (hQ : ∀ h' u tk, (∀ b o, s.heap.get? b = some o → h'.get? b = some o) → Q (.str d.shown u) { s with heap := h', toks := tk }) (hsz : d.shown.length ≤ sizeLine) : wpAny (model prog w) A (call (.builtin "repr") [.ref a]) Q E s := by
  obtain ⟨T, idr, S⟩ := showsX (prog := prog) (w := w) r hs hsz
  exact call_repr_slot (by omega) (S.typeIs s fun _ _ e => e) S.slotRepr (S.call A.in1 E s _ hg (by show A.units + 1 + d.depth < cLine; omega) (fun _ _ e => e) fun h' u tk hk => ⟨_, _, rfl, hQ h' u tk hk⟩)
end
end L2.Dx

set_option Elab.async false
set_option linter.all false
set_option maxRecDepth 100000
set_option maxHeartbeats 4000000
namespace L2.Dx
open PySem PySem.Spec PyProof.Rows L2
/-- FnOk of a def that may be asked for a repr: no repr is being made around it -/
structure FnG (P : Program) (w : World) (K : PySem.W.Frag) (mg : Str → Option Value) (base : Heap) (CX : CXT) (k : Nat) (f : Addr) (fd : FuncData) (ps : List Str) (sp : Sp) : Prop where
  len : ∀ vs H Q E, sp vs H Q E → vs.length = ps.length
  run : ∀ (A : Around) (outer : List Env) (s : Shared) (H : Hp) (args : Args) (us : List Value) (vs : List V) (Q : VK) (E : XK), Room k A → A.guards = some [] → Env0 P w K mg base A outer s H → BindsTo s fd args (ps.zip us) → Vals vs us → sp vs H Q E →
    codeAny (model P w) A (.call (.ref f) args) (CR CX outer P w H s Q E) s
section
variable {P : Program} {w : World} {K : PySem.W.Frag} {mg : Str → Option Value} {base : Heap} {CX : CXT} {k : Nat} {f : Addr} {fd : FuncData} {ps : List Str} {sp : Sp}
theorem FnG.of (F : FnOk P w K mg base CX k f fd ps sp) : FnG P w K mg base CX k f fd ps sp := ⟨F.len, fun A outer s H args us vs Q E hr _ => F.run A outer s H args us vs Q E hr⟩
theorem fn_ofG {name qual : Str} {params : Arguments} {body : List Stmt} {scope : Scope} {dV kV doc pm cdv ct oc : Value} {an od : Option Addr} {osl : Array (Option Value)} {N : List Str}
    (lk : K.lookup f = some ⟨oc, od, .func (PySem.W.fnOf name qual params body scope dV kV doc pm an cdv ct), osl⟩) (hcd : PySem.W.codeIn K cdv qual = true) (S : FnScope N ps scope) (len : ∀ vs H Q E, sp vs H Q E → vs.length = ps.length)
    (hbody : ∀ (A : Around) (outer : List Env) (s : Shared) (H : Hp) (vs : List V) (Q : VK) (E : XK), Room k (A.deeper (envOfC qual scope s.heap.objs.size f cdv)) → (A.deeper (envOfC qual scope s.heap.objs.size f cdv)).guards = some [] → sp vs H Q E →
      ∃ t, PSs (cxOf CX P w K mg base N qual scope f cdv A outer s H E) body t ∧ t { nx := fun _ H' => Q .non H', rt := Q } (start N vs) H) :
    FnG P w K mg base CX (k + 1) f (PySem.W.fnOf name qual params body scope dV kV doc pm an cdv ct) ps sp := by
  refine ⟨len, fun A outer s H args us vs Q E hr hgd e0 hb r hsp => ?_⟩
  have kx : K.In s.heap := e0.mod.kin.keeps fun b o e => (e0.bs b o e).1
  have nl : s.heap.NoLimit := e0.mod.nolimit.keeps fun b o e => (e0.bs b o e).1
  have kinds : ∀ y ∈ ps.zip us, scope.names.lookup y.1 = some .local ∨ (scope.names.lookup y.1 = some .cell ∧ ((cellsFrom (s.heap.objs.size + 1) scope.names []).lookup y.1).isSome = true) := by
    rintro ⟨n, v⟩ hy
    exact (S.par n (List.of_mem_zip hy).1).elim .inl fun z => .inr ⟨z, PySem.W.cellsFrom_some _ _ _ (.inl z)⟩
  refine codeAny_call_function hr.depth (kx _ _ lk) rfl S.co S.gen rfl (PySem.W.codeRec_of kx hcd) (hb _ _ _ _ (wpAny_newFunctionEnv_cells S.kind kinds fun env he s1 x => ?_))
  subst he
  refine ⟨nl.keeps x.toInCall.keep, codeAny_func ?_⟩
  obtain ⟨t, ht, hq⟩ := hbody A outer s H vs Q E (hr.deeper _) hgd hsp
  have I : Inv (cxOf CX P w K mg base N qual scope f cdv A outer s H E) [] (start N vs) H s1 := inv_start S hr.hd e0 (len _ _ _ _ hsp) r x
  refine wpAny_mono (ht.run [] s1 (start N vs) H _ I hq) (fun fl s' hs => ?_) fun _ _ z => z
  have out : ∀ {σ' : St} {H' : Hp} {v : V} {u : Value}, Inv (cxOf CX P w K mg base N qual scope f cdv A outer s H E) [] σ' H' s' → RelV v u → Q v H' → CE outer P w H s Q u s' := fun {σ' H' v u} J rv q => ⟨v, H', J.os, J.bare, J.base, J.hok, rv, q⟩
  cases fl with
  | ret u => exact hs.elim fun v ⟨σ', H', J, rv, q⟩ => out J rv q
  | next => exact hs.elim fun σ' ⟨H', J, q⟩ => out (v := V.non) (u := Value.none) J rfl q
  | brk => exact hs.elim fun _ ⟨_, _, q⟩ => q.elim
  | cont => exact hs.elim fun _ ⟨_, _, q⟩ => q.elim
end
section
variable {P : Program} {w : World} {K : PySem.W.Frag} {mg : Str → Option Value} {base : Heap}
theorem Fun.okG {x qual : Str} {st : Stmt} {f : Addr} {fd : FuncData} {N ps : List Str} {k : Nat} {sp : Sp} (F : Fun K x qual st f fd) (S : FnScope N ps (defScope st)) (len : ∀ vs H Q E, sp vs H Q E → vs.length = ps.length)
    (hbody : ∀ (cdv : Value) (A : Around) (outer : List Env) (s : Shared) (H : Hp) (vs : List V) (Q : VK) (E : XK), Room k (A.deeper (envOfC qual (defScope st) s.heap.objs.size f cdv)) → (A.deeper (envOfC qual (defScope st) s.heap.objs.size f cdv)).guards = some [] → sp vs H Q E →
      ∃ t, PSs (cxOf CX0 P w K mg base N qual (defScope st) f cdv A outer s H E).nox (defBody st) t ∧ t { nx := fun _ H' => Q .non H', rt := Q } (start N vs) H) : FnG P w K mg base CX0 (k + 1) f fd ps sp := by
  obtain ⟨oc, od, kV, doc, pm, an, cdv, ct, osl, rfl, lk, hcd⟩ := F.ex
  refine fn_ofG lk hcd S len fun A outer s H vs Q E hr hgd hsp => ?_
  obtain ⟨t, h, q⟩ := hbody cdv A outer s H vs Q E hr hgd hsp
  exact ⟨t, h.nox, q⟩
end
section
variable {X : Cx} {CX : CXT} {k : Nat} {f : Addr} {fd : FuncData} {ps : List Str} {ds : List Value} {dvs : List V} {sp : Sp} {E : XK} {x : Str} {p pos : Pos} {e : Expr} {es : List Expr} {t : TA}
theorem run_fnG {pins : List (Addr × Obj)} {σ : St} {H : Hp} {s : Shared} {Q : VK} {us : List Value} {vs : List V} (F : FnG X.prog X.w X.K X.mg X.base CX k f fd ps sp) (hgd : X.A.guards = some []) (hr : Room k X.A) (hb : Binds X.K fd ps ds) (hd : Vals dvs ds) (hx : Passes CX X E)
    (I : Inv X pins σ H s) (r : Vals vs us) (h : sp (vs ++ dvs) H Q E) : wpAny (model X.prog X.w) X.A (call (.ref f) us) (EP X pins σ Q) X.xe s := by
  have r2 : Vals (vs ++ dvs) (us ++ ds) := r.append hd
  have hl : (us ++ ds).length = ps.length := r2.length ▸ F.len _ _ _ _ h
  refine wpAny_call (codeAny_mono (F.run X.A X.stack s H ⟨us, []⟩ (us ++ ds) (vs ++ dvs) Q E hr hgd I.env0 (hb s us I.kIn hl) r2 h) fun r s' hq => ?_)
  rcases r with e | fl
  · exact hx pins σ H s e s' I hq
  · cases fl with
    | ret u => exact I.after hq
    | next => exact False.elim hq
    | brk => exact False.elim hq
    | cont => exact False.elim hq
theorem pe_callG (F : FnG X.prog X.w X.K X.mg X.base CX k f fd ps sp) (hgd : X.A.guards = some []) (hr : Room k X.A) (hg : Gl X x) (hm : X.mg x = some (.ref f)) (hk : PySem.W.keepIn X.K (.ref f) = true) (hb : Binds X.K fd ps ds) (hd : Vals dvs ds) (hx : Passes CX X E)
    (ha : PA X (e :: es) t) (hdb : (x == ("__debug__" : Str)) = false := by decide) (he : starEach (e :: es) X.env = (false, eval e X.env) :: starEach es X.env := by rfl) (hpl : (backTo pos (starEach es X.env)).any (·.1) = false := by rfl) :
    PE X (.Call (.Name x p) (e :: es) [] pos) (tCall sp dvs E t) :=
  ⟨fun pins s σ H Q I h => wpAny_Call_Name_kw (ld_glob I hg hm (PySem.W.callWith_K (h₀ := X.base) I.ok.mod.kin hk (thn (ha.run pos pins s σ H _ I h) fun us s1 ⟨vs, H1, I1, r, q⟩ => ⟨I1.kIn, run_fnG F hgd hr hb hd hx I1 r q⟩) he hpl) hdb)⟩
end
end L2.Dx

set_option Elab.async false
set_option linter.all false
set_option maxRecDepth 100000
set_option maxHeartbeats 4000000
namespace L2.Dx
open PySem PySem.Spec PyProof.Rows L2
/-- the law's call, from an abstract heap in which nothing but the script may be tracked -/
theorem lawG_core {P : Program} {w : World} {K : PySem.W.Frag} {mg mb : Str → Option Value} {CX : CXT} {k : Nat} {fa a : Addr} {fd : FuncData} {x : Str} {sp : Sp} {s₁ : Shared} {vs : List Value} {ns : List Int}
    (KX : K.In s₁.heap) (hns : s₁.heap.Ns mainGlobals mg) (hb : s₁.heap.Ns builtinsNs mb) (hbb : ∀ x : Str, x ≠ "__name__" → mb x = bootBuiltins x) (hlim : s₁.heap.NoLimit) (hg : s₁.gens = #[])
    (ha : s₁.heap.get? a = some { cls := .type "list", data := .seq vs.toArray }) (hr : Room k callerA)
    (F : ∀ base : Heap, K.In base → base.Ns mainGlobals mg → FnG P w K mg base CX k fa fd [x] sp) (hbind : ∀ (s : Shared) (u : Value), BindsTo s fd ⟨[u], []⟩ [(x, u)])
    (hsp : ∀ H : Hp, Only H → SqL K H a (ns.map V.int) → sp [.ref a] H (fun v _ => v = .bl true) fun _ _ _ => False) (hCX : ∀ H e s', CX [] H s₁ (fun _ _ _ => False) e s' → False)
    (H : Hp) (hO : Only H) (hS : SqL K H a (ns.map V.int)) (hok : HOk P w H s₁.heap) (hA : ∀ b, H b ≠ none → b = a) (hK : H a ≠ none → K.lookup a = none) :
    codeAny (model P w) callerA (.call (.ref fa) ⟨[.ref a], []⟩) (fun r s' => r = .ok (.ret (.bool true)) ∧ OldK s₁.heap s'.heap ∧ s'.os = s₁.os ∧ AllBare s'.gens) s₁ := by
  have free : ∀ {b : Addr} {o : Obj}, (∀ u, H b = some u → s₁.heap.get? b = some o → False) → s₁.heap.get? b = some o → H b = none := fun {b o} h e => by
    cases q : H b with
    | none => rfl
    | some u => exact (h u q e).elim
  have only : ∀ {b : Addr} {u : HO}, H b = some u → b = a := fun {b u} q => hA b (by rw [q]; simp)
  have dictFree : ∀ {b : Addr} {o : Obj} {es : Array DictEntry} {ep : Nat}, s₁.heap.get? b = some o → o.data = .dict es ep → H b = none := fun {b o es ep} e d => free (fun u q e => by
    rw [only q, ha] at e
    cases e
    cases (show Data.seq vs.toArray _ = Data.dict es ep from d)) e
  have nsK : ∀ {b : Addr} {m : Str → Option Value}, s₁.heap.Ns b m → (hidT s₁.heap H).Ns b m := fun ⟨o, es, ep, e, d, r⟩ => ⟨o, es, ep, hidT_get e (dictFree e d), d, r⟩
  have hKb : K.In (hidT s₁.heap H) := fun b o e => hidT_get (KX b o e) (free (fun u q _ => by
    have eb := only q
    subst eb
    rw [hK (by rw [q]; simp)] at e
    cases e) (KX b o e))
  have hM : Mod K mg (hidT s₁.heap H) := ⟨hKb, nsK hns, ⟨mb, nsK hb, hbb⟩, hlim.elim fun mc z => ⟨mc, nsK z.1, z.2⟩⟩
  have e0 : Env0 P w K mg (hidT s₁.heap H) callerA [] s₁ H := ⟨rfl, hM, fun b o e => of_hidT e, Nat.le_of_eq (hidT_size _ _), trivial, fun b hb => absurd (show b ∈ ([] : List Addr) from hb) (by simp), hok, .of_eq hg⟩
  refine codeAny_mono ((F _ hKb (nsK hns)).run callerA [] s₁ H ⟨[.ref a], []⟩ [.ref a] [.ref a] _ _ hr rfl e0 (hbind s₁ (.ref a)) (.cons rfl .nil) (hsp H hO hS)) fun r s' h => ?_
  rcases r with e | fl
  · exact (hCX H e s' h).elim
  cases fl with
  | next => exact False.elim h
  | brk => exact False.elim h
  | cont => exact False.elim h
  | ret u =>
    obtain ⟨v, H', os, bare, un, hok', r', q⟩ := h
    obtain rfl : v = .bl true := q
    obtain rfl : u = Value.bool true := r'
    refine ⟨rfl, OldK.of_keep fun b o e => ?_, os, bare⟩
    cases q : H b with
    | none => exact un.keep b o e q (fun z => absurd (show b ∈ ([] : List Addr) from z) (by simp)) (by simp)
    | some u =>
      rcases hO b with z | ⟨ob, xs, z⟩
      · rw [q] at z; cases z
      · have e1 := (hok b _ z).1
        rw [e] at e1
        cases e1
        exact (hok' b _ (un.frzs b _ _ z)).1
theorem law_callG {P : Program} {w : World} {K : PySem.W.Frag} {mg mb : Str → Option Value} {CX : CXT} {k : Nat} {fa a : Addr} {fd : FuncData} {x : Str} {sp : Sp} {s₁ : Shared} {vs : List Value} {ns : List Int}
    (KX : K.In s₁.heap) (hns : s₁.heap.Ns mainGlobals mg) (hb : s₁.heap.Ns builtinsNs mb) (hbb : ∀ x : Str, x ≠ "__name__" → mb x = bootBuiltins x) (hlim : s₁.heap.NoLimit) (hg : s₁.gens = #[])
    (ha : s₁.heap.get? a = some { cls := .type "list", data := .seq vs.toArray }) (hi : IntsAre vs ns) (hl : ns.length ≤ sizeLine) (hr : Room k callerA)
    (F : ∀ base : Heap, K.In base → base.Ns mainGlobals mg → FnG P w K mg base CX k fa fd [x] sp) (hbind : ∀ (s : Shared) (u : Value), BindsTo s fd ⟨[u], []⟩ [(x, u)])
    (hsp : ∀ H : Hp, Only H → SqL K H a (ns.map V.int) → sp [.ref a] H (fun v _ => v = .bl true) fun _ _ _ => False) (hCX : ∀ H e s', CX [] H s₁ (fun _ _ _ => False) e s' → False) :
    codeAny (model P w) callerA (.call (.ref fa) ⟨[.ref a], []⟩) (fun r s' => r = .ok (.ret (.bool true)) ∧ OldK s₁.heap s'.heap ∧ s'.os = s₁.os ∧ AllBare s'.gens) s₁ := by
  have rv := vals_ints hi
  have lv := hi.length
  have core := lawG_core (ns := ns) KX hns hb hbb hlim hg ha hr F hbind hsp hCX
  cases hk : K.lookup a with
  | some o =>
    have e := KX a o hk
    rw [ha] at e
    cases e
    exact core (fun _ => none) (fun _ => .inl rfl) (.inr ⟨_, vs.toArray, _, hk, rfl, rfl, rfl, by rw [List.size_toArray, lv]; exact hl, by simpa using rv⟩) (fun b u z => nomatch (show (none : Option HO) = some u from z)) (fun b z => absurd rfl z) fun z => absurd rfl z
  | none =>
    generalize hH : (fun b => if b = a then some (HO.frz { cls := .type "list", data := .seq vs.toArray } (.lst (ns.map V.int))) else none : Hp) = H
    have h1 : H a = some (HO.frz { cls := .type "list", data := .seq vs.toArray } (.lst (ns.map V.int))) := by rw [← hH]; exact if_pos rfl
    have h2 : ∀ b, b ≠ a → H b = none := fun b z => by rw [← hH]; exact if_neg z
    refine core H (fun b => ?_) (.inl (.inr ⟨_, h1⟩)) (fun b u z => ?_) (fun b z => ?_) fun _ => hk
    · by_cases e : b = a
      · exact .inr ⟨_, _, by rw [e]; exact h1⟩
      · exact .inl (h2 b e)
    · by_cases e : b = a
      · subst e
        rw [h1] at z
        cases z
        exact ⟨ha, by rw [List.length_map]; exact hl, vs, _, rv, ha⟩
      · rw [h2 b e] at z
        cases z
    · exact Classical.byContradiction fun e => z (h2 b e)
theorem walk_ofG {l : PySem.W.OpenLaw} {n k : Nat} {q : Program} {loose : List Str} {XP : (Str → Option Value) → Heap → Prop} {YP : World → Heap → Prop} {d : DefRec} {K : Params → PySem.W.Frag} {CX : World → CXT} {sp : World → Sp} {x : Str}
    (hn : l.most = some n) (hn2 : n ≤ sizeLine) (hdf : d.params.defaults = []) (hr : Room k callerA) (hY : ∀ (w : World) (h : Heap), YP w h → (K w.params).In h)
    (F : ∀ (w : World) (mg : Str → Option Value) (fa : Addr) (h : Heap), (K w.params).In h → h.Ns mainGlobals mg → mg d.name = some (.ref fa) →
      ∃ fd : FuncData, (∀ (s : Shared) (u : Value), BindsTo s fd ⟨[u], []⟩ [(x, u)]) ∧ ∀ base : Heap, (K w.params).In base → base.Ns mainGlobals mg → FnG l.prog w (K w.params) mg base (CX w) k fa fd [x] (sp w))
    (hsp : ∀ (w : World) (H : Hp) (a : Addr) (ns : List Int), ns.length ≤ n → Only H → SqL (K w.params) H a (ns.map V.int) → sp w [.ref a] H (fun v _ => v = .bl true) fun _ _ _ => False)
    (hCX : ∀ (w : World) (H : Hp) (s : Shared) (e : Value) (s' : Shared), CX w [] H s (fun _ _ _ => False) e s' → False) : PySem.W.WalkO q loose XP YP l.row.toRowW d [] (fun f vs => PySem.call f vs) :=
  Att.attach_call hn hdf fun w s₀ s₁ mg mb fa o pm cd doc a vs ns G Y ho hd hcd hmg hobj hints hlen hg => by
    obtain ⟨fd, hb, hF⟩ := F w mg fa _ (hY w _ Y) G.T.g hmg
    exact law_callG (hY w _ Y) G.T.g G.T.b G.T.builtins G.T.nolimit hg hobj hints (Nat.le_trans hlen hn2) hr hF hb (fun H hO hS => hsp w H a ns hlen hO hS) fun H e s' => hCX w H s₁ e s'
end L2.Dx

set_option Elab.async false
set_option linter.all false
set_option maxRecDepth 100000
set_option maxHeartbeats 4000000
namespace L2.Dx
open PySem PySem.Spec PyProof.Rows L2
/-- a key as data -/
def kD : Key → PyData
  | .inl i => .int i
  | .inr x => .str x
/-! nested data, with dicts whose keys are tuples of ints and texts -/
mutual
inductive Dpx (K : PySem.W.Frag) (H : Hp) : V → PyData → Prop
  | non : Dpx K H .non .none
  | bl (b : Bool) : Dpx K H (.bl b) (.bool b)
  | int (i : Int) : Dpx K H (.int i) (.int i)
  | str (x : Str) : Dpx K H (.str x) (.str x)
  | lst {a : Addr} {xs : List V} {ds : List PyData} : SqL K H a xs → DpxAll K H xs ds → Dpx K H (.ref a) (.list ds)
  | tup {a : Addr} {xs : List V} {ds : List PyData} : SqT K H a xs → DpxAll K H xs ds → Dpx K H (.ref a) (.tuple ds)
  | dt {a : Addr} {kvs : List (List Key × V)} {ds : List (PyData × PyData)} : Rd H a (.dT kvs) → ds.map (·.1) = kvs.map (fun p => PyData.tuple (p.1.map kD)) → DpxAll K H (kvs.map (·.2)) (ds.map (·.2)) → Dpx K H (.ref a) (.dict ds)
inductive DpxAll (K : PySem.W.Frag) (H : Hp) : List V → List PyData → Prop
  | nil : DpxAll K H [] []
  | cons {v : V} {vs : List V} {d : PyData} {ds : List PyData} : Dpx K H v d → DpxAll K H vs ds → DpxAll K H (v :: vs) (d :: ds)
end
section
variable {X : Cx} {pins : List (Addr × Obj)} {σ : St} {H : Hp} {s : Shared}
theorem rdxs_keys (h : Heap) : ∀ {ks : List Key} {us : List Value}, Vals (ks.map kV) us → RdXs h us (ks.map kD)
  | [], us, r => by cases r; exact .nil
  | .inl i :: ks, us, r => by
    cases r with
    | cons r rs =>
      obtain ⟨t, rfl⟩ := r
      exact .cons (.int i t) (rdxs_keys h rs)
  | .inr x :: ks, us, r => by
    cases r with
    | cons r rs =>
      obtain ⟨t, rfl⟩ := r
      exact .cons (.str x t) (rdxs_keys h rs)
mutual
theorem Dpx.rd (I : Inv X pins σ H s) : ∀ {v : V} {d : PyData} {u : Value}, Dpx X.K H v d → RelV v u → RdX s.heap u d
  | _, _, _, .non, r => by cases r; exact .none
  | _, _, _, .bl b, r => by cases r; exact .bool b
  | _, _, _, .int i, r => by obtain ⟨t, rfl⟩ := r; exact .int i t
  | _, _, _, .str x, r => by obtain ⟨t, rfl⟩ := r; exact .str x t
  | _, _, _, .lst hs ha, r => by
    cases r
    obtain ⟨its, rv, ⟨o, n, ho, hc, _, hd⟩, _⟩ := I.list hs
    exact .list ho hc hd (DpxAll.rd I ha rv)
  | _, _, _, .tup hs ha, r => by
    cases r
    obtain ⟨its, rv, ⟨o, ho, hc, n, hd⟩, _⟩ := I.tuple hs
    exact .tuple ho hc hd (DpxAll.rd I ha rv)
  | _, _, _, .dt (kvs := kvs) (ds := ds) hs hk hv, r => by
    cases r
    obtain ⟨_, y, xs, kt, o, es, ep, h1, h2, h3, h4, _, _⟩ := dt_rd I.hok hs
    have vals : ∀ {l : List (List Key × V)} {m : List (List Key × Addr × Value)}, KT H l m → Vals (l.map (·.2)) (m.map (·.2.2)) ∧ RdXs s.heap (m.map fun x => Value.ref x.2.1) (l.map fun p => PyData.tuple (p.1.map kD)) := by
      intro l m q
      induction q with
      | nil => exact ⟨.nil, .nil⟩
      | @cons p q ps qs hq t ih =>
        obtain ⟨e1, e2, e3⟩ := hq
        obtain ⟨_, its, rv, o', g1, g2, n, g3⟩ := (show ObjOk X.prog X.w H s.heap q.2.1 (.tup (p.1.map kV)) from I.hok _ _ e2)
        exact ⟨.cons e3 ih.1, .cons (.tuple g1 g2 g3 (rdxs_keys _ rv)) ih.2⟩
    obtain ⟨v1, v2⟩ := vals kt
    refine .dict h1 h2.1 h3 y ?_ ?_
    · rw [h4, List.map_map, hk]
      exact v2
    · rw [h4, List.map_map]
      exact DpxAll.rd I hv v1
theorem DpxAll.rd (I : Inv X pins σ H s) : ∀ {vs : List V} {ds : List PyData} {us : List Value}, DpxAll X.K H vs ds → Vals vs us → RdXs s.heap us ds
  | _, _, _, .nil, r => by cases r; exact .nil
  | _, _, _, .cons h1 h2, r => by
    cases r with
    | cons r1 r2 => exact .cons (Dpx.rd I h1 r1) (DpxAll.rd I h2 r2)
end
structure ShownOk (d : PyData) : Prop where
  sh : d.showable = true
  dp : d.depth ≤ 50
  fit : d.shown.length ≤ sizeLine
def rRepr (K : PySem.W.Frag) : List V → Hp → VK → Prop := fun vs H Q => ∃ (a : Addr) (d : PyData), vs = [.ref a] ∧ Dpx K H (.ref a) d ∧ ShownOk d ∧ Q (.str d.shown) H
theorem call_reprG (hgd : X.A.guards = some []) (hu : X.A.units + 64 < cLine) : CallR X (.builtin "repr") (rRepr X.K) := by
  intro pins s σ H xs us Q I r h
  obtain ⟨a, d, rfl, hd, ok, q⟩ := h
  rw [Vals.ref1 r]
  have := ok.dp
  exact call_reprX (Dpx.rd I hd rfl) ok.sh hgd (by omega) (fun h' u tk hk => ⟨.str d.shown, H, I.kept hk, ⟨u, rfl⟩, q⟩) ok.fit
end
end L2.Dx

set_option Elab.async false
set_option linter.all false
set_option maxRecDepth 100000
set_option maxHeartbeats 4000000
namespace L2.Dx
open PySem PySem.Spec PyProof.Rows L2
abbrev keyM (m : Str × Int) : List L2.Key := [.inr m.1, .inl m.2]
abbrev datM (m : Str × Int) : PyData := .tuple [.str m.1, .int m.2]
/-- m stands at b -/
def MAt (H : Hp) (m : Str × Int) (b : Addr) : Prop := H b = some (.tup [.str m.1, .int m.2])
noncomputable def sortM (ms : List (Str × Int)) : List (Str × Int) := ms.mergeSort (PySem.W.dataLe false datM)
theorem aliveM (a b : Str × Int) : PySem.W.alike (datM a) (datM b) = true := by simp [PySem.W.alike, PySem.W.alikeAll]
theorem eachM {h : Heap} {H : Hp} : ∀ {us : List Value} {ms : List (Str × Int)}, PySem.W.EachIs (fun v m => ∃ b, v = Value.ref b ∧ MAt H m b) us ms → ∃ bs : List Addr, us = bs.map Value.ref ∧ Paired (MAt H) ms bs
  | _, _, .nil => ⟨[], rfl, .nil⟩
  | _, _, .cons ⟨b, e, h1⟩ t => by
    obtain ⟨bs, e2, h2⟩ := eachM (h := h) t
    exact ⟨b :: bs, by rw [e, e2]; rfl, .cons h1 h2⟩
section
variable {X : Cx}
def rSortedDT : List V → Hp → VK → Prop := fun vs H Q => ∃ (d : Addr) (kvs : List (List L2.Key × V)) (ms : List (Str × Int)), vs = [V.ref d] ∧ Rd H d (.dT kvs) ∧ kvs.map (·.1) = ms.map keyM ∧
  ∀ (p : Addr) (bs : List Addr), H p = none → Paired (MAt H) (sortM ms) bs → Q (.ref p) (upd H p (.lst (bs.map V.ref)))
theorem cr_sortedDT (hc : X.calm = true) (hu : X.A.units + 64 < cLine) : CallR X (.builtin "sorted") rSortedDT := by
  intro pins s σ H xs us Q I r h
  obtain ⟨d, kvs, ms, rfl, hd, hkm, q⟩ := h
  obtain ⟨u, rfl, rx⟩ := vals1 r
  cases rx
  obtain ⟨z, hs, ks, pr, o, es, ep, ho, hx, hdt, he, hn⟩ := (show ObjOk X.prog X.w H s.heap d (.dT kvs) from hd.ok I.hok)
  have l1 : es.size = ks.length := size_of_entries he
  have l2 : kvs.length = ks.length := Paired.length pr
  have l3 : kvs.length = ms.length := by
    have := congrArg List.length hkm
    rwa [List.length_map, List.length_map] at this
  refine Calls.call_function_entry PyProof.Rows.kind_sorted PyProof.Rows.plain_sorted PyProof.Rows.entry_sorted (PyProof.Rows.args_sorted1 _) ?_
  unfold Builtin.«sorted»
  refine wpAny_bind (m := checkCount "sorted" 1 1 _) (wpAny_pure ?_)
  refine wpAny_bind (PySem.W.kdu_collect (A := X.A.in1) (kdl_raw hs hx hdt) (I.ok.hd hc) ho (by omega) fun h' tk acc hk hacc => ?_)
  have ea : acc.toList = ks.map fun x => Value.ref x.2.1 := by
    have hl : acc.toList.length = ks.length := by rw [Array.length_toList, hacc.1]; exact l1
    apply List.ext_getElem?
    intro j
    rw [List.getElem?_map]
    cases hj : acc.toList[j]? with
    | none =>
      have h1 := List.getElem?_eq_none_iff.mp hj
      rw [List.getElem?_eq_none (by omega)]
      all_goals rfl
    | some v =>
      obtain ⟨en, hen, hv⟩ := hacc.2 j v (by rw [← Array.getElem?_toList]; exact hj)
      have qe := entry_at he j
      rw [hen] at qe
      cases hb : ks[j]? with
      | none =>
        rw [hb] at qe
        exact nomatch (show some en = none from qe)
      | some b =>
        rw [hb] at qe
        have e2 : en = entryOfKey (tupleKind (mixKind X.prog X.w)) b := Option.some.inj qe
        rw [hv, e2]
        all_goals rfl
  have I1 : Inv X pins σ H { s with heap := h', toks := tk } := I.kept hk
  -- what the keys are
  have each : PySem.W.EachIs (fun v m => ∃ b, v = Value.ref b ∧ MAt H m b) acc.toList ms := by
    rw [ea]
    have go : ∀ {l : List (List L2.Key × V)} {m : List (List L2.Key × Addr × Value)} {ms : List (Str × Int)}, Paired (fun (p : List L2.Key × V) (q : List L2.Key × Addr × Value) => p.1 = q.1 ∧ H q.2.1 = some (.tup (p.1.map kV)) ∧ RelV p.2 q.2.2) l m → l.map (·.1) = ms.map keyM → PySem.W.EachIs (fun v m => ∃ b, v = Value.ref b ∧ MAt H m b) (m.map fun x => Value.ref x.2.1) ms := by
      intro l m ms pr
      induction pr generalizing ms with
      | nil =>
        intro e
        cases ms with
        | nil => exact .nil
        | cons _ _ => cases e
      | @cons p q ps qs hq t ih =>
        intro e
        cases ms with
        | nil => cases e
        | cons m ms =>
          rw [List.map_cons, List.map_cons, List.cons.injEq] at e
          refine .cons ⟨q.2.1, rfl, ?_⟩ (ih e.2)
          have := hq.2.1
          rw [e.1] at this
          exact this
    exact go pr hkm
  have hal : acc.toList.length = ms.length := each.length
  refine wpAny_bind (wpAny_newList ?_ (by rw [hal]; omega))
  have hoL : (h'.push (seqObj "list" acc.toList.toArray 0)).get? h'.objs.size = some (seqObj "list" acc.toList.toArray 0) := Heap.get?_push_size _ rfl
  show wpAny _ _ _ _ _ { s with heap := h'.push (seqObj "list" acc.toList.toArray 0), toks := tk }
  have reads : PySem.W.EachIs (fun v m => ∃ as, Reads (PySem.W.sortingHeap (h'.push (seqObj "list" acc.toList.toArray 0)) h'.objs.size acc.toList) v (datM m) as) acc.toList ms := each.mono fun v m hvm => by
    obtain ⟨b, rfl, hb⟩ := hvm
    obtain ⟨_, its, rv, o', g1, g2, n, g3⟩ := (show ObjOk X.prog X.w H h' b (.tup [.str m.1, .int m.2]) from I1.hok _ _ hb)
    have g1' := PySem.W.sortingHeap_old (vs := acc.toList) (Nat.ne_of_lt (Heap.lt_size g1)) (Heap.get?_push_of_some (seqObj "list" acc.toList.toArray 0) g1)
    obtain ⟨us1, us2, e1, ⟨t1, rfl⟩, ⟨t2, rfl⟩⟩ : ∃ u1 u2, its = [u1, u2] ∧ RelV (.str m.1) u1 ∧ RelV (.int m.2) u2 := by
      cases rv with
      | cons r1 r2 =>
        cases r2 with
        | cons r2 r3 =>
          cases r3
          exact ⟨_, _, rfl, r1, r2⟩
    subst e1
    exact ⟨_, .tuple g1' g2 g3 (.cons (.str _ _) (.cons (.int _ _) .nil))⟩
  have S := PySem.W.SortsAt.data (prog := X.prog) (w := X.w) (A := X.A.in1.in1) (s := { s with heap := PySem.W.sortingHeap (h'.push (seqObj "list" acc.toList.toArray 0)) h'.objs.size acc.toList, toks := tk }) (PySem.W.each_map datM reads) (PySem.W.AllAlike.of (enc := datM) aliveM) (PySem.W.Sortable.tuples (enc := datM) fun b => ⟨_, _, rfl⟩) (fun d hd => by
    obtain ⟨m, _, rfl⟩ := List.mem_map.mp hd
    show X.A.units + 1 + 1 + 1 < cLine
    omega)
  refine wpAny_bind (wpAny_holding (wpAny_call_entry PyProof.Rows.slot_list_sort ⟨_, hoL, rfl⟩ PyProof.Rows.entry_list_sort
    (PySem.W.list_sort_vals (s := { s with heap := h'.push (seqObj "list" acc.toList.toArray 0), toks := tk }) hoL S (by rw [hal]; omega) ⟨_, rfl, ?_⟩) (PyProof.Rows.args_list_sort _)))
  have sv := PySem.W.sortVals_data false each reads (PySem.W.AllAlike.of (enc := datM) aliveM)
  generalize PySem.W.sortVals _ false acc.toList acc.toList = out at sv ⊢
  obtain ⟨bs, rfl, hbs⟩ := eachM (h := h') sv
  obtain ⟨e', he'⟩ := PyProof.Rows.sortedHeap_at (vs := acc.toList) (out := (bs.map Value.ref).toArray) hoL
  have hbl : bs.length = ms.length := by rw [← Paired.length hbs]; exact (List.mergeSort_perm _ _).length_eq
  have hlen : (bs.map V.ref).length ≤ sizeLine := by rw [List.length_map]; omega
  refine wpAny_pure ⟨_, rfl, .ref h'.objs.size, upd H h'.objs.size (.lst (bs.map V.ref)), I1.laid (t' := tk) (fun b u e => ?_) (Nat.le_refl _)
    (show ObjOk X.prog X.w _ _ _ (.lst (bs.map V.ref)) from ⟨hlen, bs.map Value.ref, e', vals_refs bs, he'⟩), rfl, q _ bs (I1.hok.fresh (Nat.le_refl _)) hbs⟩
  have hb : b < h'.objs.size := Heap.lt_size e
  rw [PyProof.Rows.sortedHeap_old (Nat.ne_of_lt hb) (by rw [size_push']; exact Nat.lt_succ_of_lt hb)]
  exact Heap.get?_push_of_some _ e
end
end L2.Dx

set_option Elab.async false
set_option linter.all false
set_option maxRecDepth 100000
set_option maxHeartbeats 4000000
namespace L2.Dx
open PySem PySem.Spec PyProof.Rows L2
theorem str_ext {a b : Str} (h : a.cps.toList = b.cps.toList) : a = b := by
  obtain ⟨⟨x⟩⟩ := a
  obtain ⟨⟨y⟩⟩ := b
  simp only at h
  rw [h]
theorem str_tri (a b : Str) : a.cps.toList < b.cps.toList ∨ a = b ∨ b.cps.toList < a.cps.toList := by
  by_cases c : a.cps.toList < b.cps.toList
  · exact .inl c
  · by_cases d : b.cps.toList < a.cps.toList
    · exact .inr (.inr d)
    · exact .inr (.inl (str_ext (List.le_antisymm (List.not_lt.mp d) (List.not_lt.mp c))))
abbrev ltM (a b : Str × Int) : Prop := a.1.cps.toList < b.1.cps.toList ∨ (a.1 = b.1 ∧ a.2 < b.2)
theorem dataLtM (a b : Str × Int) : PySem.W.dataLt (datM a) (datM b) = decide (ltM a b) := by
  rw [PySem.W.dataLt_pair (by simp [PySem.W.alike]) (by simp [PySem.W.alike]), PySem.W.dataLt_str, PySem.W.dataLt_int]
  simp only [PyData.eqv, beq_iff_eq]
  by_cases h1 : a.1 = b.1
  · rw [if_pos h1]
    have n1 : ¬ a.1.cps.toList < b.1.cps.toList := by rw [h1]; exact List.lt_irrefl _
    by_cases h2 : a.2 = b.2
    · rw [if_pos h2]
      have : ¬ ltM a b := by rintro (z | z); exact n1 z; omega
      simp [this]
    · rw [if_neg h2]
      by_cases h3 : a.2 < b.2
      · have : ltM a b := .inr ⟨h1, h3⟩
        simp [this, h3]
      · have : ¬ ltM a b := by rintro (z | z); exact n1 z; omega
        simp [this, h3]
  · rw [if_neg h1]
    by_cases h3 : a.1.cps.toList < b.1.cps.toList
    · have : ltM a b := .inl h3
      simp [this, h3]
    · have : ¬ ltM a b := by rintro (z | z); exact h3 z; exact h1 z.1
      simp [this, h3]
theorem ltM_trans {a b c : Str × Int} (h : ltM a b) (k : ltM b c) : ltM a c := by
  rcases h with h | h
  · rcases k with k | k
    · exact .inl (List.lt_trans h k)
    · exact .inl (k.1 ▸ h)
  · rcases k with k | k
    · exact .inl (h.1 ▸ k)
    · exact .inr ⟨h.1.trans k.1, by omega⟩
theorem ltM_irrefl (a : Str × Int) : ¬ ltM a a := by
  rintro (z | z)
  · exact List.lt_irrefl _ z
  · omega
theorem ltM_tri (a b : Str × Int) : ltM a b ∨ a = b ∨ ltM b a := by
  rcases str_tri a.1 b.1 with h | h | h
  · exact .inl (.inl h)
  · rcases Int.lt_trichotomy a.2 b.2 with k | k | k
    · exact .inl (.inr ⟨h, k⟩)
    · exact .inr (.inl (Prod.ext h k))
    · exact .inr (.inr (.inr ⟨h.symm, k⟩))
  · exact .inr (.inr (.inl h))
theorem dataLeM (a b : Str × Int) : PySem.W.dataLe false datM a b = !decide (ltM b a) := by
  show (!PySem.W.dataLt (datM b) (datM a)) = _
  rw [dataLtM]
/-- the messages in ascending order, in whatever order they stood -/
theorem sortM_eq {L ms : List (Str × Int)} (h : L.Pairwise ltM) (p : L.Perm ms) : sortM ms = L := by
  refine List.Perm.eq_of_pairwise (le := fun a b => PySem.W.dataLe false datM a b = true) ?_ ?_ ?_ ((List.mergeSort_perm ms _).trans p.symm)
  · intro a b _ _ h1 h2
    rw [dataLeM] at h1 h2
    simp only [Bool.not_eq_true', decide_eq_false_iff_not] at h1 h2
    rcases ltM_tri a b with c | c | c
    · exact absurd c h2
    · exact c
    · exact absurd c h1
  · refine List.pairwise_mergeSort (le := PySem.W.dataLe false datM) (fun a b c h1 h2 => ?_) (fun a b => ?_) ms
    · rw [dataLeM] at h1 h2 ⊢
      simp only [Bool.not_eq_true', decide_eq_false_iff_not] at h1 h2 ⊢
      intro z
      rcases ltM_tri a b with c1 | c1 | c1
      · exact h2 (ltM_trans z c1)
      · exact h2 (c1 ▸ z)
      · exact h1 c1
    · rw [dataLeM, dataLeM]
      by_cases c : ltM b a
      · have : ¬ ltM a b := fun z => ltM_irrefl _ (ltM_trans c z)
        simp [this]
      · simp [c]
  · refine h.imp fun {a b} l => ?_
    rw [dataLeM]
    simp only [Bool.not_eq_true', decide_eq_false_iff_not]
    exact fun z => ltM_irrefl _ (ltM_trans l z)
end L2.Dx

set_option Elab.async false
set_option linter.all false
set_option maxRecDepth 100000
set_option maxHeartbeats 4000000
namespace L2.Dx
open PySem PySem.Spec PyProof.Rows L2
theorem stored_nodup {K : Type} [DecidableEq K] : ∀ (ps xs : List (K × Addr × Value)), ((xs ++ ps).map (·.1)).Nodup → storedAllH xs ps = xs ++ ps
  | [], xs, _ => by rw [List.append_nil]; rfl
  | p :: ps, xs, h => by
    have hn : atKey xs p.1 = none := by
      unfold atKey
      rw [Option.map_eq_none_iff, List.find?_eq_none]
      intro x hx
      simp only [decide_eq_true_eq]
      intro e
      rw [List.map_append, List.nodup_append] at h
      exact h.2.2 x.1 (List.mem_map_of_mem hx) p.1 (by simp) e
    have e : storedAllH xs (p :: ps) = storedAllH (storedH xs p.1 p.2.1 p.2.2) ps := rfl
    rw [e, storedH_new hn, stored_nodup ps (xs ++ [(p.1, p.2.1, p.2.2)]) (by rw [List.append_assoc]; exact h), List.append_assoc]
    rfl
/-- a pair (its address), its key's address, the key and what it is paired with -/
abbrev Trip := Addr × Addr × (List L2.Key × V)
section
variable {X : Cx}
theorem call_dictT (hcalm : X.calm = true) (hu : X.A.units + 64 < cLine) : CallR X (.type "dict") (fun xs H Q => ∃ (a : Addr) (ts : List Trip), xs = [.ref a] ∧ SqL X.K H a (ts.map fun t => V.ref t.1) ∧ (∀ t ∈ ts, SqT X.K H t.1 [.ref t.2.1, t.2.2.2] ∧ H t.2.1 = some (.tup (t.2.2.1.map kV))) ∧ (ts.map fun t => t.2.2.1).Nodup ∧
    ∀ p, H p = none → Q (.ref p) (upd H p (.dT (ts.map fun t => t.2.2)))) := by
  intro pins s σ H xs us Q I r q
  obtain ⟨a, ts, ex, hq, hts, hnd, q⟩ := q
  subst ex
  obtain ⟨u, eu, rx⟩ := vals1 r
  subst eu
  cases rx
  obtain ⟨its, rv, pl, hz⟩ := I.list hq
  have ei : its = (ts.map (·.1)).map Value.ref := refs_at (ps := ts.map (·.1)) (by rw [List.map_map]; exact rv)
  subst ei
  rw [List.length_map] at hz
  obtain ⟨o, n, ho, hc, hd, hdat⟩ := pl
  -- the pairs
  have key : ∀ {ts : List Trip}, (∀ t ∈ ts, SqT X.K H t.1 [.ref t.2.1, t.2.2.2] ∧ H t.2.1 = some (.tup (t.2.2.1.map kV))) → ∃ us : List Value, Paired (fun (t : Trip) u => RelV t.2.2.2 u ∧ IsTup s.heap t.1 #[.ref t.2.1, u]) ts us := by
    intro ts
    induction ts with
    | nil => exact fun _ => ⟨[], .nil⟩
    | cons t ts ih =>
      intro h
      obtain ⟨us, hus⟩ := ih fun t' ht => h t' (List.mem_cons_of_mem _ ht)
      obtain ⟨its, rv, htp, _⟩ := I.tuple (h t List.mem_cons_self).1
      obtain ⟨u, y, ei, ru, ry⟩ := vals2 rv
      subst ei
      cases ru
      exact ⟨y :: us, .cons ⟨ry, htp⟩ hus⟩
  obtain ⟨us, hus⟩ := key hts
  have lus : ts.length = us.length := Paired.length hus
  have at_ : ∀ {j : Nat} {t : Trip} {u : Value}, ts[j]? = some t → us[j]? = some u → RelV t.2.2.2 u ∧ IsTup s.heap t.1 #[.ref t.2.1, u] := by
    have go : ∀ {ts : List Trip} {us : List Value}, Paired (fun (t : Trip) u => RelV t.2.2.2 u ∧ IsTup s.heap t.1 #[.ref t.2.1, u]) ts us → ∀ {j : Nat} {t : Trip} {u : Value}, ts[j]? = some t → us[j]? = some u → RelV t.2.2.2 u ∧ IsTup s.heap t.1 #[.ref t.2.1, u] := by
      intro ts us p
      induction p with
      | nil => intro j t u h; simp at h
      | cons h _ ih =>
        intro j t u h1 h2
        cases j with
        | zero => cases h1; cases h2; exact h
        | succ j => exact ih (by simpa using h1) (by simpa using h2)
    exact fun {_ _ _} h1 h2 => go hus h1 h2
  let ps : List (List L2.Key × Addr × Value) := List.zipWith (fun (t : Trip) u => (t.2.2.1, t.2.1, u)) ts us
  have lps : ps.length = ts.length := by
    show (List.zipWith _ ts us).length = _
    rw [List.length_zipWith]
    omega
  have getps : ∀ j : Nat, ps[j]? = match (ts[j]? : Option Trip), (us[j]? : Option Value) with | some t, some u => some (t.2.2.1, t.2.1, u) | _, _ => none := fun j => by
    show (List.zipWith _ ts us)[j]? = _
    rw [List.getElem?_zipWith]
    cases ts[j]? <;> cases us[j]? <;> rfl
  have isK : ∀ h', (∀ b o, b ≠ s.heap.objs.size → b ∉ ([] : List Addr) → s.heap.get? b = some o → h'.get? b = some o) → ∀ x ∈ ps, (tupleKind (mixKind X.prog X.w)).is h' x.1 x.2.1 := by
    intro h' hk x hx
    obtain ⟨j, hj⟩ := List.mem_iff_getElem?.mp hx
    rw [getps j] at hj
    cases h1 : ts[j]? with
    | none => rw [h1] at hj; cases hj
    | some t =>
      cases h2 : us[j]? with
      | none => rw [h1, h2] at hj; cases hj
      | some u =>
        rw [h1, h2] at hj
        cases hj
        obtain ⟨o', its, n, g1, g2, g3, g4⟩ := key_of I.hok (hts t (List.mem_of_getElem? h1)).2
        exact ⟨o', its, n, hk _ _ (Nat.ne_of_lt (Heap.lt_size g1)) (by simp) g1, g2, g3, g4⟩
  have nodup : (ps.map (·.1)).Nodup := by
    have : ps.map (·.1) = ts.map fun t => t.2.2.1 := by
      apply List.ext_getElem?
      intro j
      rw [List.getElem?_map, List.getElem?_map, getps j]
      cases h1 : ts[j]? with
      | none => rfl
      | some t =>
        have : ∃ u, us[j]? = some u := ⟨_, List.getElem?_eq_getElem (by rw [← lus]; exact (List.getElem?_eq_some_iff.mp h1).1)⟩
        obtain ⟨u, h2⟩ := this
        rw [h2]
        rfl
    rw [this]
    exact hnd
  have stored : storedAllH [] ps = ps := by simpa using stored_nodup ps [] (by simpa using nodup)
  refine call_dict_pairsH (knd := tupleKind (mixKind X.prog X.w)) (ps := ps) (PairArg.list a ((ts.map (·.1)).map Value.ref).toArray (fun j => ((ts[j]?).map (·.1)).getD 0) (ps.map fun x => (Value.ref x.2.1, x.2.2))) (I.ok.hd hcalm) (by show X.A.units + 1 + 1 < cLine; omega) ⟨⟨o, n, ho, hc, hd, hdat⟩, ?_, ?_⟩ ⟨by rw [List.length_map], ?_⟩ isK (by rw [List.length_map, lps]; exact hz) fun h' tk hd' k => ?_
  · rw [List.length_map, lps]; simp
  · intro j k v hj
    rw [List.getElem?_map, getps j] at hj
    cases h1 : ts[j]? with
    | none => rw [h1] at hj; cases hj
    | some t =>
      cases h2 : us[j]? with
      | none => rw [h1, h2] at hj; cases hj
      | some u =>
        rw [h1, h2] at hj
        cases hj
        refine ⟨by simp [h1], ?_⟩
        obtain ⟨_, o', g1, g2, n', g3⟩ := at_ h1 h2
        exact .inl ⟨o', by simpa [h1] using g1, g2, n', g3⟩
  · intro i key v hr
    have hr : (ps.map fun x => (Value.ref x.2.1, x.2.2))[i]? = some (key, v) := hr
    rw [List.getElem?_map] at hr
    cases h1 : ps[i]? with
    | none => rw [h1] at hr; cases hr
    | some x =>
      rw [h1] at hr
      cases hr
      exact ⟨x.1, x.2.1, rfl, rfl⟩
  · have hm : (s.heap.objs.size == sysModules) = false := beq_eq_false_iff_ne.mpr (Nat.ne_of_gt I.big)
    rw [stored] at hd'
    obtain ⟨od, es, ep, d1, d2, d3, d4, _, d5⟩ := hd'
    have hfree := I.hok.fresh (Nat.le_refl s.heap.objs.size)
    refine ⟨.ref s.heap.objs.size, upd H s.heap.objs.size (.dT (ts.map fun t => t.2.2)), I.laid (t' := tk) (fun b u e => k b u (by simp) e) (Nat.le_refl _) (show ObjOk X.prog X.w _ _ _ (.dT (ts.map fun t => t.2.2)) from ⟨by rw [List.length_map]; exact hz, hm, ps, ?_, od, es, ep, d1, d2, d3, d4, d5⟩), rfl, q _ hfree⟩
    have go : ∀ {l : List Trip} {us : List Value}, Paired (fun (t : Trip) u => RelV t.2.2.2 u ∧ IsTup s.heap t.1 #[.ref t.2.1, u]) l us → (∀ t ∈ l, H t.2.1 = some (.tup (t.2.2.1.map kV))) → Paired (fun (p : List L2.Key × V) (q : List L2.Key × Addr × Value) => p.1 = q.1 ∧ (upd H s.heap.objs.size (.dT (ts.map fun t => t.2.2))) q.2.1 = some (.tup (p.1.map kV)) ∧ RelV p.2 q.2.2) (l.map fun t => t.2.2) (List.zipWith (fun (t : Trip) u => (t.2.2.1, t.2.1, u)) l us) := by
      intro l us p
      induction p with
      | nil => exact fun _ => .nil
      | @cons t u l us h _ ih =>
        intro hh
        have ht := hh t List.mem_cons_self
        exact .cons ⟨rfl, (upd_ne (ne_of_none ht hfree)).trans ht, h.1⟩ (ih fun t' h' => hh t' (List.mem_cons_of_mem _ h'))
    exact go hus fun t ht => (hts t ht).2
end
end L2.Dx

set_option Elab.async false
set_option linter.all false
set_option maxRecDepth 100000
set_option maxHeartbeats 4000000
namespace L2.Dx
open PySem PySem.Spec PyProof.Rows L2
def rDClearT : V → List V → Hp → VK → Prop := fun x vs H Q => ∃ (a : Addr) (kvs : List (List L2.Key × V)), x = .ref a ∧ vs = [] ∧ H a = some (.dT kvs) ∧ Q .non (upd H a (.dT []))
theorem mtd_clearT {X : Cx} : MtR X "dict.clear" rDClearT := by
  intro pins s σ H x vs v us Q I rx rv h
  obtain ⟨a, kvs, ex, ev, e, q⟩ := h
  subst ex
  subst ev
  obtain rfl : v = Value.ref a := rx
  have hus := rv.zero
  subst hus
  obtain ⟨z, hd, xs, pr, o, es, ep, ho, hc, hdat, he, _⟩ := (show ObjOk X.prog X.w H s.heap a (.dT kvs) from I.hok _ _ e)
  have hsz : es.size ≤ sizeLine := by rw [size_of_entries he, ← Paired.length pr]; exact z
  have raw : s.heap.DictRaw a es ep := ⟨o, ho, hc, hdat⟩
  refine call_meetsIn PySem.F.slot_dict_clear raw.typeIs PySem.F.entry_dict_clear (PySem.F.args_dict_clear_1 _) (meets_dict_clear_raw a) ⟨es, ep, raw, hsz, fun h' dd' hs => ?_⟩
  obtain ⟨o', ho', hc', hdat'⟩ := dd'
  exact ⟨.non, _, d_write (t' := s.toks) I (by rw [e]; exact True.intro) hs ⟨o', ho'⟩ (show ObjOk X.prog X.w _ _ _ (.dT []) from ⟨Nat.zero_le _, hd, [], .nil, o', _, _, ho', hc', hdat', rfl, .nil⟩), rfl, q⟩
theorem call_list_ofK {X : Cx} {K : PySem.W.Frag} (hK : X.K = K) : CallR X (.type "list") (fun xs H Q => ∃ p ys, xs = [.ref p] ∧ (SqL K H p ys ∨ SqT K H p ys) ∧ ∀ l, H l = none → Q (.ref l) (upd H l (.lst ys))) := by
  subst hK
  exact call_list_of
theorem sl_tupK {X : Cx} {K : PySem.W.Frag} (hK : X.K = K) : SlR X (rSlT K) := by
  subst hK
  exact sl_tup
section
variable {X : Cx} {o : Expr} {to : TE} {apos cpos : Pos}
theorem pe_dclearT (ho : PE X o to) (hbase : attributeBase o "clear" X.env (eval o X.env) = eval o X.env := by rfl) (hline : (apos.endLine == cpos.line) = true := by rfl) : PE X (.Call (.Attribute o "clear" apos) [] [] cpos) (tBM0 X.K "dict" rDClearT to) :=
  pe_bm0 PySem.F.plainAttrs_dict PySem.F.slot_dict_clear PySem.F.type_dict_clear mtd_clearT ho hbase hline
end
end L2.Dx

set_option Elab.async false
set_option linter.all false
set_option maxRecDepth 100000
set_option maxHeartbeats 4000000
namespace KA
open PySem PySem.Spec PyProof.Rows L2 L2.Dx Kx
abbrev msOf (t : Msg) : Str × Int := (t.1, ((t.2.1 : Nat) : Int))
theorem msgsOf_pw {x : Str} {l : List Nat} : (msgsOf x l).Pairwise fun t u => ltM (msOf t) (msOf u) := by
  unfold msgsOf
  rw [List.pairwise_map]
  have go : ∀ (l : List Nat) (k : Nat), (numFrom k l).Pairwise fun p q => p.1 < q.1 := by
    intro l
    induction l with
    | nil => exact fun _ => .nil
    | cons j t ih =>
      intro k
      refine .cons (fun q hq => ?_) (ih (k + 1))
      obtain ⟨a, b⟩ := q
      have := (numFrom_mem (k := 0) hq).1
      show k < a
      omega
  exact (go l 1).imp fun {p q} h => .inr ⟨rfl, by show ((p.1 : Nat) : Int) < (q.1 : Nat); omega⟩
theorem all_pw {S : Str → List Nat} : ∀ {nodes : List Str}, nodes.Pairwise ltS → (allMsgs nodes S).Pairwise fun t u => ltM (msOf t) (msOf u)
  | [], _ => .nil
  | x :: r, h => by
    unfold allMsgs
    rw [List.flatMap_cons, List.pairwise_append]
    refine ⟨msgsOf_pw, all_pw (List.pairwise_cons.mp h).2, fun t ht u hu => ?_⟩
    have h1 := (msgsOf_mem ht).1
    have h2 := (all_mem (nodes := r) hu).1
    exact .inl (by show t.1.cps.toList < u.1.cps.toList; rw [h1]; exact (List.pairwise_cons.mp h).1 _ h2)
theorem all_nodup {nodes : List Str} {S : Str → List Nat} (h : nodes.Pairwise ltS) : (allMsgs nodes S).Nodup := (all_pw h).imp fun {a b} l (e : a = b) => ltM_irrefl _ (by rw [e] at l; exact l)
/-- the messages in the order of their sends -/
def sentMsgs (nodes : List Str) (es : List Ev) : Nat → List Msg
  | 0 => []
  | k + 1 => sentMsgs nodes es k ++ (match es[k]? with
    | some (.snd x _) => [(x, ((Rs.upto nodes es k).sends x).length + 1, k)]
    | _ => [])
theorem sent_place {nodes : List Str} {es : List Ev} {t : Msg} : ∀ {k : Nat}, t ∈ sentMsgs nodes es k → t.2.2 < k
  | k + 1, h => by
    rcases List.mem_append.mp (show t ∈ sentMsgs nodes es k ++ _ from h) with h | h
    · have := sent_place h
      omega
    · cases hk : es[k]? with
      | none => rw [hk] at h; cases h
      | some e =>
        rw [hk] at h
        cases e with
        | opn _ _ _ => cases h
        | snd x rs =>
          rw [List.mem_singleton.mp h]
          show k < k + 1
          omega
theorem all_iff {nodes : List Str} {S : Str → List Nat} {t : Msg} : t ∈ allMsgs nodes S ↔ t.1 ∈ nodes ∧ 1 ≤ t.2.1 ∧ (S t.1)[t.2.1 - 1]? = some t.2.2 := by
  constructor
  · intro h
    obtain ⟨h1, h2, _, h4⟩ := all_mem h
    exact ⟨h1, h2, h4⟩
  · rintro ⟨h1, h2, h3⟩
    unfold allMsgs
    refine List.mem_flatMap.mpr ⟨t.1, h1, ?_⟩
    unfold msgsOf
    refine List.mem_map.mpr ⟨(t.2.1, t.2.2), ?_, rfl⟩
    have go : ∀ (l : List Nat) (k a b : Nat), k ≤ a → l[a - k]? = some b → (a, b) ∈ numFrom k l := by
      intro l
      induction l with
      | nil => intro k a b _ h; simp at h
      | cons j t ih =>
        intro k a b hk h
        by_cases e : a = k
        · subst e
          rw [Nat.sub_self] at h
          cases h
          exact List.mem_cons_self
        · rw [show a - k = a - (k + 1) + 1 by omega, List.getElem?_cons_succ] at h
          exact List.mem_cons_of_mem _ (ih (k + 1) a b (by omega) h)
    exact go _ 1 _ _ h2 h3
theorem sent_iff {nodes : List Str} {es : List Ev} {t : Msg} : ∀ {k : Nat}, OkTo nodes es k → (t ∈ sentMsgs nodes es k ↔ t ∈ allMsgs nodes (Rs.upto nodes es k).sends)
  | 0, _ => by
    rw [all_iff]
    constructor
    · intro h; cases h
    · rintro ⟨_, _, h⟩
      cases h
  | k + 1, ok => by
    have ih := @sent_iff nodes es t k fun j hj => ok j (by omega)
    show t ∈ sentMsgs nodes es k ++ _ ↔ _
    rw [List.mem_append, ih]
    cases hk : es[k]? with
    | none =>
      rw [upto_none hk]
      simp
    | some e =>
      rw [upto_succ hk]
      cases e with
      | opn y s n =>
        show _ ∨ t ∈ [] ↔ t ∈ allMsgs nodes (Rs.upto nodes es k).sends
        simp
      | snd x rs =>
        have hx : x ∈ nodes := (ok k (by omega) _ hk).1
        show _ ∨ t ∈ [(x, ((Rs.upto nodes es k).sends x).length + 1, k)] ↔ t ∈ allMsgs nodes (fun y => if y = x then (Rs.upto nodes es k).sends x ++ [k] else (Rs.upto nodes es k).sends y)
        rw [all_iff, all_iff, List.mem_singleton]
        by_cases c : t.1 = x
        · rw [if_pos c, ← c]
          constructor
          · rintro (⟨h1, h2, h3⟩ | h)
            · refine ⟨h1, h2, ?_⟩
              rw [List.getElem?_append_left (List.getElem?_eq_some_iff.mp h3).1]
              exact h3
            · have e1 : t.2.1 = ((Rs.upto nodes es k).sends t.1).length + 1 := congrArg (·.2.1) h
              have e2 : t.2.2 = k := congrArg (·.2.2) h
              rw [e1, e2]
              refine ⟨c ▸ hx, by omega, ?_⟩
              simp
          · rintro ⟨h1, h2, h3⟩
            by_cases d : t.2.1 - 1 < ((Rs.upto nodes es k).sends t.1).length
            · rw [List.getElem?_append_left d] at h3
              exact .inl ⟨h1, h2, h3⟩
            · right
              rw [List.getElem?_append_right (by omega)] at h3
              have h4 := (List.getElem?_eq_some_iff.mp h3).1
              simp at h4
              rw [show t.2.1 - 1 - ((Rs.upto nodes es k).sends t.1).length = 0 by omega] at h3
              have h5 : k = t.2.2 := by simpa using h3
              refine Prod.ext rfl (Prod.ext ?_ h5.symm)
              show t.2.1 = _ + 1
              omega
        · rw [if_neg c]
          constructor
          · rintro (h | h)
            · exact h
            · exact absurd (congrArg (·.1) h) c
          · exact .inl
theorem sent_nodup {nodes : List Str} {es : List Ev} : ∀ k : Nat, (sentMsgs nodes es k).Nodup
  | 0 => .nil
  | k + 1 => by
    show (sentMsgs nodes es k ++ _).Nodup
    rw [List.nodup_append]
    refine ⟨sent_nodup k, ?_, fun t ht u hu e => ?_⟩
    · cases es[k]? with
      | none => exact .nil
      | some e => cases e <;> simp
    · have h1 := sent_place ht
      cases hk : es[k]? with
      | none => rw [hk] at hu; cases hu
      | some e' =>
        rw [hk] at hu
        cases e' with
        | opn _ _ _ => cases hu
        | snd x rs =>
          have h2 := List.mem_singleton.mp hu
          rw [e, h2] at h1
          exact absurd h1 (Nat.lt_irrefl _)
theorem sent_sort {nodes : List Str} {es : List Ev} (hn : NodesOk nodes) (ok : RunOk nodes es) : sortM ((sentMsgs nodes es es.length).map msOf) = (allMsgs nodes (rsOf nodes es).sends).map msOf := by
  refine sortM_eq ?_ (List.Perm.map _ ?_)
  · rw [List.pairwise_map]
    exact all_pw hn.asc
  · exact ((List.perm_ext_iff_of_nodup (all_nodup hn.asc) (sent_nodup _)).mpr fun t => (sent_iff ok).symm)
end KA
namespace KA
open PySem PySem.Spec PyProof.Rows L2 L2.Dx Kx
/-- a dict from the messages L to the pairs (place of the send, its list of receivers) -/
structure SentAt (H : Hp) (D : Addr) (as : List Addr) (L : List Msg) (g : Msg → Addr) : Prop where
  at' : H D = some (.dT (L.map fun t => (keyOf t, V.ref (g t))))
  own : ∀ t ∈ L, ∃ l a, as[t.2.2]? = some a ∧ H a = some (.tup [.str "send", .str t.1, .ref l]) ∧ H (g t) = some (.tup [.int ((t.2.2 : Nat) : Int), .ref l])
theorem SentAt.same {H H' : Hp} {D : Addr} {as : List Addr} {L : List Msg} {g : Msg → Addr} (S : SentAt H D as L g) (s : Same H H') : SentAt H' D as L g :=
  ⟨s _ _ S.at', fun t ht => (S.own t ht).elim fun l ⟨a, h1, h2, h3⟩ => ⟨l, a, h1, s _ _ h2, s _ _ h3⟩⟩
theorem sent_key {nodes : List Str} {es : List Ev} {k : Nat} (ok : OkTo nodes es k) {t u : Msg} (ht : t ∈ sentMsgs nodes es k) (hu : u ∈ sentMsgs nodes es k) (e : keyOf t = keyOf u) : t = u :=
  key_inj ((sent_iff ok).mp ht) ((sent_iff ok).mp hu) e
theorem SentAt.put {nodes : List Str} {es : List Ev} {H : Hp} {D p l a : Addr} {as : List Addr} {k : Nat} {x : Str} {rs : List Str} {g : Msg → Addr} (S : SentAt H D as (sentMsgs nodes es k) g) (ok : OkTo nodes es (k + 1)) (he : es[k]? = some (.snd x rs))
    (ha : as[k]? = some a) (hl : H a = some (.tup [.str "send", .str x, .ref l])) (hp : H p = some (.tup [.int ((k : Nat) : Int), .ref l])) :
    SentAt (upd H D (.dT (putK ((sentMsgs nodes es k).map fun t => (keyOf t, V.ref (g t))) (keyOf (x, ((Rs.upto nodes es k).sends x).length + 1, k)) (.ref p)))) D as (sentMsgs nodes es (k + 1)) (fun t => if t.2.2 = k then p else g t) := by
  have e1 : sentMsgs nodes es (k + 1) = sentMsgs nodes es k ++ [(x, ((Rs.upto nodes es k).sends x).length + 1, k)] := by
    show sentMsgs nodes es k ++ (match es[k]? with
      | some (.snd x _) => [(x, ((Rs.upto nodes es k).sends x).length + 1, k)]
      | _ => []) = _
    rw [he]
  have new : (x, ((Rs.upto nodes es k).sends x).length + 1, k) ∈ sentMsgs nodes es (k + 1) := by rw [e1]; simp
  have out : ∀ t ∈ sentMsgs nodes es k, keyOf t ≠ keyOf (x, ((Rs.upto nodes es k).sends x).length + 1, k) := fun t ht e => by
    have h1 : t ∈ sentMsgs nodes es (k + 1) := by rw [e1]; exact List.mem_append_left _ ht
    have h2 := sent_key ok h1 new e
    have h3 := sent_place ht
    rw [h2] at h3
    exact Nat.lt_irrefl _ h3
  have ne : ∀ {b : Addr} {xs : List V}, H b = some (.tup xs) → b ≠ D := fun h => ne_of h S.at' (by intro z; cases z)
  refine ⟨?_, fun t ht => ?_⟩
  · rw [upd_same, putK_new _ (valT_out out), e1, List.map_append]
    congr 2
    congr 1
    · refine List.map_congr_left fun t ht => ?_
      rw [if_neg (Nat.ne_of_lt (sent_place ht))]
    · simp
  · rw [e1] at ht
    rcases List.mem_append.mp ht with ht | ht
    · obtain ⟨l', a', h1, h2, h3⟩ := S.own t ht
      refine ⟨l', a', h1, (upd_ne (ne h2)).trans h2, ?_⟩
      show upd H D _ (if t.2.2 = k then p else g t) = _
      rw [if_neg (Nat.ne_of_lt (sent_place ht))]
      exact (upd_ne (ne h3)).trans h3
    · rw [List.mem_singleton.mp ht]
      refine ⟨l, a, ha, (upd_ne (ne hl)).trans hl, ?_⟩
      show upd H D _ (if k = k then p else _) = _
      rw [if_pos rfl]
      exact (upd_ne (ne hp)).trans hp
end KA

set_option Elab.async false
set_option linter.all false
set_option maxRecDepth 100000
set_option maxHeartbeats 16000000
namespace KA
open PySem PySem.Spec PyProof.Rows L2 L2.Dx Kx
section
variable {P : Program} {w : World} {K : PySem.W.Frag} {mg : Str → Option Value} {base : Heap}
def sp__law_sends : Sp := fun vs H Q _ => ∃ (R : Addr) (nodes : List Str) (as : List Addr) (es : List Ev), vs = [.ref R] ∧ RunAt H R as es ∧ es.length ≤ 900 ∧ NodesOk nodes ∧ RunOk nodes es ∧
  ∀ (H' : Hp) (D : Addr) (g : Msg → Addr), Same H H' → H D = none → SentAt H' D as (sentMsgs nodes es es.length) g → Q (.ref D) H'
theorem ok__law_sends (T : Txt K mg) : FnOk P w K mg base CX0 1 T.f__law_sends T.fd__law_sends ["run"] sp__law_sends := by
  refine T.F__law_sends.ok sc__law_sends (fun vs H Q E h => ?_) (fun cdv A outer s H vs Q E hr h => ?_)
  · obtain ⟨R, nodes, as, es, rfl, _⟩ := h
    rfl
  · obtain ⟨R, nodes, as, es, rfl, hR, hlen, hn, ok, q⟩ := h
    refine ⟨_, (pss_cons (ps_par (i := 1) (j := 2) rfl sc__law_sends.nd rfl rfl (by decide) rfl rfl (pa_cons pe_dnewT (pa_cons pe_dnewK pa_nil)) (by rfl))
    (pss_cons (ps_for PassesOwn.never rfl (pi_enum (by rfl) T.m_enumerate (pa_cons (pv 0) pa_nil)) (pg_tup rfl (pgs_cons (pg_name (i := 3) sc__law_sends.nd rfl (by first | exact .inl rfl | exact .inr rfl)) (pgs_cons (pg_name (i := 4) sc__law_sends.nd rfl (by first | exact .inl rfl | exact .inr rfl)) pgs_nil)))
      (pss_one (ps_if (pt_cmpR op_eq (pe_ix ix_tup (pv 4) pe_int (fun _ _ => rfl)) pe_str (nomark _))
        (pss_cons (ps_dput (hu_of hr) (pv 2) (pe_ix ix_tup (pv 4) pe_int (fun _ _ => rfl)) (pe_op op_add (pe_dget2 (hu_of hr) (pv 2) (pe_ix ix_tup (pv 4) pe_int (fun _ _ => rfl)) pe_int ⟨rfl, rfl, rfl, rfl⟩) pe_int) rfl)
        (pss_one (ps_dput (hu_of hr) (pv 1) (pe_tup (pa_cons (pe_ix ix_tup (pv 4) pe_int (fun _ _ => rfl)) (pa_cons (pe_dget (hu_of hr) (pv 2) (pe_ix ix_tup (pv 4) pe_int (fun _ _ => rfl)) (fun _ _ => rfl)) pa_nil))) (pe_tup (pa_cons (pv 3) (pa_cons (pe_ix ix_tup (pv 4) pe_int (fun _ _ => rfl)) pa_nil))) rfl)))
        pss_nil)))
    (pss_one (ps_ret (pv 1))))), ?_⟩
    refine fun D hD => fun C hC => ⟨_, _, rfl, ?_⟩
    have nDC : D ≠ C := ne_of_none upd_same hC
    have s1 : Same H (upd H D (.dT [])) := same_new hD
    have s3 : Same H (upd (upd H D (.dT [])) C (.dK [])) := s1.trans (same_new hC)
    have hD1 : (upd (upd H D (.dT [])) C (.dK [])) D = some (.dT []) := (upd_ne nDC).trans upd_same
    have hC1 : (upd (upd H D (.dT [])) C (.dK [])) C = some (.dK []) := upd_same
    have C0 : H C = none := s1.free hC
    generalize upd (upd H D (.dT [])) C (.dK []) = H1 at s3 hD1 hC1 ⊢
    clear s1 hC
    have hRK : (as.map V.ref).length = es.length := by rw [List.length_map, hR.len]
    refine ⟨.ref R, rfl, R, _, rfl, ltI (s3 _ _ hR.at'), for_enum (xs := as.map V.ref) (fun i σ H' => Same H H' ∧ ∃ kvs g y3 y4, H' C = some (.dK kvs) ∧ CntAt kvs (Rs.upto nodes es i).sends ∧ kvs.length ≤ i ∧ SentAt H' D as (sentMsgs nodes es i) g ∧ (sentMsgs nodes es i).length ≤ i ∧ σ = [some (.ref R), some (.ref D), some (.ref C), y3, y4]) ?_ ?_ ?_ ?_⟩
    · exact ⟨s3, [], fun _ => 0, none, none, hC1, fun x => rfl, Nat.le_refl _, ⟨hD1, fun t ht => nomatch ht⟩, Nat.le_refl _, rfl⟩
    · exact fun i σ H' _ hI => ltI (hI.1 _ _ hR.at')
    · rintro k v σ H0 Tq hv ⟨sm0, kvs, g, y3, y4, hC0, hcnt, hkl, hS0, hsl, rfl⟩ hT
      rw [List.getElem?_map] at hv
      obtain ⟨a, ha, rfl⟩ := Option.map_eq_some_iff.mp hv
      have hk : k < es.length := by rw [← hR.len]; exact (List.getElem?_eq_some_iff.mp ha).1
      obtain ⟨e, he⟩ : ∃ e, es[k]? = some e := ⟨_, List.getElem?_eq_getElem hk⟩
      refine ⟨Tq, _, rfl, tpI upd_same, rfl, _, _, rfl, _, _, rfl, rfl, ?_⟩
      have tT := same_new (o := .tup [.int (k : Nat), .ref a]) hT
      have sm := sm0.trans tT
      have hCk := tT _ _ hC0
      have hSk := hS0.same tT
      generalize upd H0 Tq (.tup [.int (k : Nat), .ref a]) = H1 at sm hCk hSk ⊢
      clear sm0 hC0 hS0 tT hT
      have hev := (hR.ev k a e ha he).same sm
      cases e with
      | snd x rs =>
        obtain ⟨l, hl1, hl0⟩ := hev
        refine ⟨.ref a, rfl, a, _, 0, .str "send", rfl, rfl, tpI hl1, atI_nat (j := 0) rfl, rfl, true, rfl, iteT ?_⟩
        refine ⟨.ref C, rfl, C, rfl, .inl ⟨_, .inl hCk⟩, .ref a, rfl, a, _, 1, .str x, rfl, rfl, tpI hl1, atI_nat (j := 1) rfl, _, DGet.k (k := Sum.inr x) hCk, _, 1, cnt_get hcnt, rfl, .ref C, rfl, .ref a, rfl, a, _, 1, .str x, rfl, rfl, tpI hl1, atI_nat (j := 1) rfl, C, _, rfl, DPut.k (k := Sum.inr x) hCk (small1000 (by omega)), ?_⟩
        have ecn : (((Rs.upto nodes es k).sends x).length : Nat) + (1 : Int) = ((((Rs.upto nodes es k).sends x).length + 1 : Nat) : Int) := by omega
        have hcn := cnt_next he hcnt
        have sm2 : Same H (upd H1 C (.dK (putK kvs (Sum.inr x) (.int ((((Rs.upto nodes es k).sends x).length : Nat) + 1))))) := same_put sm C0
        have hC2 : (upd H1 C (.dK (putK kvs (Sum.inr x) (.int ((((Rs.upto nodes es k).sends x).length : Nat) + 1))))) C = some (.dK (putK kvs (Sum.inr x) (.int ((((Rs.upto nodes es k).sends x).length : Nat) + 1)))) := upd_same
        have hl2 : (upd H1 C (.dK (putK kvs (Sum.inr x) (.int ((((Rs.upto nodes es k).sends x).length : Nat) + 1))))) a = some (.tup [.str "send", .str x, .ref l]) := (upd_ne (ne_of hl1 hCk (by intro z; cases z))).trans hl1
        have hS2 : SentAt (upd H1 C (.dK (putK kvs (Sum.inr x) (.int ((((Rs.upto nodes es k).sends x).length : Nat) + 1))))) D as (sentMsgs nodes es k) g := ⟨(upd_ne nDC).trans hSk.at', fun t ht => (hSk.own t ht).elim fun l ⟨a, h1, h2, h3⟩ => ⟨l, a, h1, (upd_ne (ne_of h2 hCk (by intro z; cases z))).trans h2, (upd_ne (ne_of h3 hCk (by intro z; cases z))).trans h3⟩⟩
        have hpl := length_putK kvs (Sum.inr x) (.int ((((Rs.upto nodes es k).sends x).length : Nat) + 1))
        have hgv : valV (putK kvs (Sum.inr x) (.int ((((Rs.upto nodes es k).sends x).length : Nat) + 1))) (.inr x) = some (.int ((((Rs.upto nodes es k).sends x).length + 1 : Nat) : Int)) := by rw [valV_put, if_pos rfl, ecn]
        rw [← ecn] at hcn
        generalize putK kvs (Sum.inr x) (.int ((((Rs.upto nodes es k).sends x).length : Nat) + 1)) = kv2 at hcn sm2 hC2 hl2 hpl hgv hS2 ⊢
        generalize upd H1 C (.dK kv2) = H2 at sm2 hC2 hl2 hS2 ⊢
        refine ⟨_, rfl, .ref a, rfl, a, _, 2, .ref l, rfl, rfl, tpI hl2, atI_nat (j := 2) rfl, by show 2 ≤ sizeLine; decide, fun p hp => ?_⟩
        have tp := same_new (o := .tup [.int (k : Nat), .ref l]) hp
        have hl3 := tp _ _ hl2
        have hp3 := upd_same (H := H2) (a := p) (o := .tup [.int (k : Nat), .ref l])
        have hS3 := hS2.same tp
        have hC3 := tp _ _ hC2
        have sm3 := sm2.trans tp
        generalize upd H2 p (.tup [.int (k : Nat), .ref l]) = H3 at sm3 hC3 hl3 hS3 hp3 ⊢
        refine ⟨.ref D, rfl, .ref a, rfl, a, _, 1, .str x, rfl, rfl, tpI hl3, atI_nat (j := 1) rfl, .ref C, rfl, .ref a, rfl, a, _, 1, .str x, rfl, rfl, tpI hl3, atI_nat (j := 1) rfl, C, .int ((((Rs.upto nodes es k).sends x).length + 1 : Nat) : Int), rfl, ?_, by show 2 ≤ sizeLine; decide, fun m hm => ?_⟩
        · rw [← hgv]
          exact DGet.k (k := Sum.inr x) hC3
        have tm := same_new (o := .tup [.str x, .int ((((Rs.upto nodes es k).sends x).length + 1 : Nat) : Int)]) hm
        refine ⟨D, _, rfl, DPut.t (k := keyOf (x, ((Rs.upto nodes es k).sends x).length + 1, k)) (tm _ _ hS3.at') upd_same (by rw [List.length_map]; exact small1000 (by omega)), ?_⟩
        have hS4 := (hS3.same tm).put (fun j hj => ok j (by omega)) he ha (tm _ _ hl3) (tm _ _ hp3)
        refine ⟨same_put (sm3.trans tm) hD, kv2, _, _, _, (upd_ne (Ne.symm nDC)).trans (tm _ _ hC3), hcn, by omega, hS4, ?_, rfl⟩
        show (sentMsgs nodes es k ++ _).length ≤ k + 1
        rw [he, List.length_append]
        show _ + 1 ≤ k + 1
        omega
      | opn x s n =>
        obtain ⟨m, hm1, hm2⟩ := hev
        refine ⟨.ref a, rfl, a, _, 0, .str "open", rfl, rfl, tpI hm1, atI_nat (j := 0) rfl, rfl, false, rfl, iteF ⟨sm, kvs, g, _, _, hCk, ?_, by omega, ?_, ?_, rfl⟩⟩
        · rw [upto_succ he]
          exact hcnt
        · show SentAt _ _ _ (sentMsgs nodes es k ++ _) g
          rw [he]
          rw [show sentMsgs nodes es k ++ (match some (Ev.opn x s n) with
            | some (.snd x _) => [(x, ((Rs.upto nodes es k).sends x).length + 1, k)]
            | _ => []) = sentMsgs nodes es k from List.append_nil _]
          exact hSk
        · show (sentMsgs nodes es k ++ _).length ≤ k + 1
          rw [he, List.length_append]
          show _ + 0 ≤ k + 1
          omega
    · rintro σ H1 ⟨sm, kvs, g, y3, y4, _, _, _, hS, _, rfl⟩
      rw [hRK] at hS
      exact ⟨.ref D, rfl, q _ D g sm hD hS⟩
end
end KA

set_option Elab.async false
set_option linter.all false
set_option maxRecDepth 100000
set_option maxHeartbeats 4000000
namespace L2.Dx
open PySem PySem.Spec PyProof.Rows L2
/-- a list comprehension over enumerate(xs) -/
theorem lc_enum {K : PySem.W.Frag} {a : Addr} {xs : List V} {g : TG} {tt : TT} {te : TE} {vs : List Nat} {σ : St} {H1 : Hp} {D : Addr} {Qd : Hp → Prop} (Pv : Nat → Hp → Prop) (h0 : Pv 0 (upd H1 D (.lst []))) (hl : ∀ i H, i ≤ xs.length → Pv i H → SqL K H a xs)
    (hs : ∀ i x H T, xs[i]? = some x → Pv i H → H T = none → g (.ref T) (wipe σ vs) (upd H T (.tup [.int (i : Nat), x])) fun σ2 H2 => wipe σ2 vs = wipe σ vs ∧ tt σ2 H2 fun b H3 =>
      if b = true then te σ2 H3 fun y H4 => ∃ acc, H4 D = some (.lst acc) ∧ acc.length < sizeLine ∧ Pv (i + 1) (upd H4 D (.lst (acc ++ [y]))) else Pv (i + 1) H3) (hd : ∀ H, Pv xs.length H → Qd H) :
    ∃ W : Nat → Nat → Hp → Prop, (∃ m, W 0 m (upd H1 D (.lst []))) ∧ ∀ i m H, W i m H →
      ((Ite K a).stop i H ∧ Qd H) ∨ ((Ite K a).go i H ∧ ∃ Nx : Hp → Prop, (∀ H', Nx H' → ∃ m', m' < m ∧ W (i + 1) m' H') ∧ ∀ v H', (Ite K a).yld i H v H' → g v (wipe σ vs) H' fun σ2 H2 => wipe σ2 vs = wipe σ vs ∧ tt σ2 H2 fun b H3 =>
        if b = true then te σ2 H3 fun y H4 => ∃ acc, H4 D = some (.lst acc) ∧ acc.length < sizeLine ∧ Nx (upd H4 D (.lst (acc ++ [y]))) else Nx H3) := by
  refine ⟨fun i m H => m = xs.length - i ∧ i ≤ xs.length ∧ Pv i H, ⟨_, rfl, Nat.zero_le _, h0⟩, fun i m H ⟨em, hi, p⟩ => ?_⟩
  subst em
  rcases Nat.lt_or_ge i xs.length with lt | ge
  · refine .inr ⟨⟨xs, xs[i], hl i H hi p, List.getElem?_eq_getElem lt⟩, Pv (i + 1), fun H' p' => ⟨_, by omega, rfl, lt, p'⟩, fun v H' ⟨T, x, ev, nT, eH, y⟩ => ?_⟩
    subst ev eH
    exact hs i x _ T (y xs (hl i _ hi p)) p nT
  · have e : xs.length = i := Nat.le_antisymm ge hi
    subst e
    exact .inl ⟨⟨xs, hl _ H hi p, Nat.le_refl _⟩, hd H p⟩
theorem Paired.fn {α β γ : Type} [DecidableEq α] [Inhabited γ] {R : β → γ → Prop} (f : α → β) : ∀ {L : List α} {bs : List γ}, Paired R (L.map f) bs → L.Nodup → ∃ k : α → γ, bs = L.map k ∧ ∀ t ∈ L, R (f t) (k t)
  | [], bs, h, _ => by
    have h : Paired R [] bs := h
    cases h
    exact ⟨fun _ => default, rfl, fun t ht => nomatch ht⟩
  | a :: L, bs, h, nd => by
    have h : Paired R (f a :: L.map f) bs := h
    cases h with
    | @cons _ b _ bs h1 h2 =>
      obtain ⟨k, e, hk⟩ := Paired.fn f h2 (List.nodup_cons.mp nd).2
      have na := (List.nodup_cons.mp nd).1
      refine ⟨fun t => if t = a then b else k t, ?_, fun t ht => ?_⟩
      · rw [List.map_cons, if_pos rfl, e]
        congr 1
        exact List.map_congr_left fun t ht => (if_neg fun z : t = a => na (by rw [← z]; exact ht)).symm
      · by_cases c : t = a
        · show R (f t) (if t = a then b else k t)
          rw [if_pos c, c]
          exact h1
        · show R (f t) (if t = a then b else k t)
          rw [if_neg c]
          exact hk t ((List.mem_cons.mp ht).resolve_left c)
/-- data that is small enough to be shown -/
structure Sm (d : PyData) (k w : Nat) : Prop where
  sh : d.showable = true
  sl : d.leavesShort 13 = true
  dp : d.depth ≤ k
  wt : d.weight ≤ w
theorem Sm.shown {d : PyData} {k w : Nat} (h : Sm d k w) (hk : k ≤ 50) (hw : w ≤ 1048576) : ShownOk d := ⟨h.sh, Nat.le_trans h.dp hk, PyData.shown_fits (B := 13) (by decide) (by decide) h.sl (Nat.le_trans h.wt (Nat.le_trans hw (by decide)))⟩
theorem Sm.mono {d : PyData} {k w k' w' : Nat} (h : Sm d k w) (hk : k ≤ k') (hw : w ≤ w') : Sm d k' w' := ⟨h.sh, h.sl, Nat.le_trans h.dp hk, Nat.le_trans h.wt hw⟩
theorem sm_all {k w : Nat} : ∀ {ds : List PyData}, (∀ d ∈ ds, Sm d k w) → PyData.showableAll ds = true ∧ PyData.leavesShortAll 13 ds = true ∧ PyData.depthAll ds ≤ k ∧ PyData.weightAll ds ≤ ds.length * (w + 1)
  | [], _ => ⟨rfl, rfl, Nat.zero_le _, Nat.zero_le _⟩
  | d :: ds, h => by
    obtain ⟨h1, h2, h3, h4⟩ := sm_all (ds := ds) fun d hd => h d (List.mem_cons_of_mem _ hd)
    obtain ⟨g1, g2, g3, g4⟩ := h d List.mem_cons_self
    refine ⟨?_, ?_, ?_, ?_⟩
    · show (d.showable && PyData.showableAll ds) = true
      rw [g1, h1]; rfl
    · show (d.leavesShort 13 && PyData.leavesShortAll 13 ds) = true
      rw [g2, h2]; rfl
    · show max d.depth (PyData.depthAll ds) ≤ k
      omega
    · show d.weight + 1 + PyData.weightAll ds ≤ (ds.length + 1) * (w + 1)
      rw [Nat.succ_mul]
      omega
theorem Sm.list {k w n : Nat} {ds : List PyData} (h : ∀ d ∈ ds, Sm d k w) (hn : ds.length ≤ n) : Sm (.list ds) (k + 1) (n * (w + 1)) := by
  obtain ⟨h1, h2, h3, h4⟩ := sm_all h
  exact ⟨h1, h2, Nat.succ_le_succ h3, Nat.le_trans h4 (Nat.mul_le_mul_right _ hn)⟩
theorem Sm.tuple {k w n : Nat} {ds : List PyData} (h : ∀ d ∈ ds, Sm d k w) (hn : ds.length ≤ n) : Sm (.tuple ds) (k + 1) (n * (w + 1)) := by
  obtain ⟨h1, h2, h3, h4⟩ := sm_all h
  exact ⟨h1, h2, Nat.succ_le_succ h3, Nat.le_trans h4 (Nat.mul_le_mul_right _ hn)⟩
theorem sm_kv {k w : Nat} : ∀ {ds : List (PyData × PyData)}, (∀ d ∈ ds, Sm d.1 k w ∧ Sm d.2 k w) → PyData.showableKv ds = true ∧ PyData.leavesShortKv 13 ds = true ∧ PyData.depthKv ds ≤ k ∧ PyData.weightKv ds ≤ ds.length * (2 * w + 2)
  | [], _ => ⟨rfl, rfl, Nat.zero_le _, Nat.zero_le _⟩
  | (a, b) :: ds, h => by
    obtain ⟨h1, h2, h3, h4⟩ := sm_kv (ds := ds) fun d hd => h d (List.mem_cons_of_mem _ hd)
    obtain ⟨⟨g1, g2, g3, g4⟩, ⟨f1, f2, f3, f4⟩⟩ := h (a, b) List.mem_cons_self
    refine ⟨?_, ?_, ?_, ?_⟩
    · show (a.showable && b.showable && PyData.showableKv ds) = true
      rw [show a.showable = true from g1, show b.showable = true from f1, h1]; rfl
    · show (a.leavesShort 13 && b.leavesShort 13 && PyData.leavesShortKv 13 ds) = true
      rw [show a.leavesShort 13 = true from g2, show b.leavesShort 13 = true from f2, h2]; rfl
    · show max (max a.depth b.depth) (PyData.depthKv ds) ≤ k
      have g3 : a.depth ≤ k := g3
      have f3 : b.depth ≤ k := f3
      omega
    · show a.weight + b.weight + 2 + PyData.weightKv ds ≤ (ds.length + 1) * (2 * w + 2)
      have g4 : a.weight ≤ w := g4
      have f4 : b.weight ≤ w := f4
      rw [Nat.succ_mul]
      omega
theorem Sm.dict {k w n : Nat} {ds : List (PyData × PyData)} (h : ∀ d ∈ ds, Sm d.1 k w ∧ Sm d.2 k w) (hn : ds.length ≤ n) : Sm (.dict ds) (k + 1) (n * (2 * w + 2)) := by
  obtain ⟨h1, h2, h3, h4⟩ := sm_kv h
  exact ⟨h1, h2, Nat.succ_le_succ h3, Nat.le_trans h4 (Nat.mul_le_mul_right _ hn)⟩
theorem Sm.non : Sm .none 0 12 := ⟨rfl, rfl, Nat.zero_le _, Nat.zero_le _⟩
theorem Sm.nat {n : Nat} (h : n ≤ 1000) : Sm (.int (n : Nat)) 0 12 := by
  have k : (List.range 1001).all (fun n => PyData.showable (.int (n : Nat)) && PyData.leavesShort 13 (.int (n : Nat)) && decide (PyData.weight (.int (n : Nat)) ≤ 12)) = true := by decide +kernel
  rw [List.all_eq_true] at k
  have := k n (List.mem_range.mpr (by omega))
  simp only [Bool.and_eq_true, decide_eq_true_eq] at this
  exact ⟨this.1.1, this.1.2, Nat.zero_le _, this.2⟩
end L2.Dx
namespace KA
open PySem PySem.Spec PyProof.Rows L2 L2.Dx Kx
theorem sm_name {z : Str} (h : NameOk z) : Sm (.str z) 0 12 := by
  refine ⟨rfl, ?_, Nat.zero_le _, Nat.le_trans h.hi (by decide)⟩
  show (z.cps.toList.all fun c => decide (c < 16 ^ 8)) = true
  rw [List.all_eq_true]
  intro c hc
  have := h.az c hc
  rw [decide_eq_true_eq]
  exact Nat.lt_of_le_of_lt this.2 (by decide)
theorem sm_names {rs : List Str} (h : ∀ r ∈ rs, NameOk r) (hl : rs.length ≤ 13) : Sm (.list (rs.map PyData.str)) 1 169 := Sm.list (w := 12) (n := 13) (fun d hd => by
  obtain ⟨r, hr, rfl⟩ := List.mem_map.mp hd
  exact sm_name (h r hr)) (by rw [List.length_map]; exact hl)
/-- an event as data -/
def evD : Ev → PyData
  | .snd x rs => .tuple [.str "send", .str x, .list (rs.map .str)]
  | .opn x s n => .tuple [.str "open", .str x, .tuple [.str s, .int n]]
theorem NameOk.send : NameOk "send" := pool_name _ (by decide +kernel)
theorem NameOk.open' : NameOk "open" := pool_name _ (by decide +kernel)
theorem nd_len : ∀ {l m : List Str}, l.Nodup → (∀ x ∈ l, x ∈ m) → l.length ≤ m.length
  | [], _, _, _ => Nat.zero_le _
  | a :: l, m, nd, h => by
    have ha := h a List.mem_cons_self
    have nd := List.nodup_cons.mp nd
    have := nd_len (l := l) (m := m.erase a) nd.2 fun x hx => (List.mem_erase_of_ne (fun z => nd.1 (by rw [← z]; exact hx))).mpr (h x (List.mem_cons_of_mem _ hx))
    rw [List.length_erase_of_mem ha] at this
    have := List.length_pos_of_mem ha
    rw [List.length_cons]
    omega
/-- what a run's reading tells of its events -/
theorem ev_facts {nodes : List Str} {es : List Ev} (hn : NodesOk nodes) (ok : RunOk nodes es) {i : Nat} {e : Ev} (he : es[i]? = some e) : match e with
    | .snd x rs => x ∈ nodes ∧ (∀ r ∈ rs, r ∈ nodes) ∧ rs.length ≤ 12 ∧ rs ≠ []
    | .opn x s n => x ∈ nodes ∧ s ∈ nodes ∧ ∃ m : Nat, n = (m : Int) ∧ 1 ≤ m ∧ m ≤ es.length := by
  have hi := (List.getElem?_eq_some_iff.mp he).1
  have h := ok i hi e he
  cases e with
  | snd x rs =>
    obtain ⟨h1, h2⟩ := h
    have mem : ∀ r ∈ rs, r ∈ nodes := fun r hr => (recvB_mem h2 hr).1
    refine ⟨h1, mem, ?_, ?_⟩
    · have asc : rs.Pairwise ltS := by
        unfold recvB at h2
        rw [Bool.and_eq_true] at h2
        exact recvGo_asc h2.2
      have nd : rs.Nodup := asc.imp fun {a b} l (e : a = b) => ltS_irrefl b (by rw [e] at l; exact l)
      exact Nat.le_trans ((nd_len nd mem)) hn.hi
    · rintro rfl
      cases h2
  | opn x s n =>
    obtain ⟨j, h1, h2, _⟩ := h
    obtain ⟨k1, k2, k3, k4⟩ := sentAt_mem h1
    obtain ⟨_, _, rs, g1, g2⟩ := sends_ok (fun j hj => ok j (by omega)) k4
    rw [recvAt_snd g1] at h2
    refine ⟨(recvB_mem g2 h2).1, k1, n.toNat, by omega, by omega, ?_⟩
    have := (List.getElem?_eq_some_iff.mp k3).1
    have := @sends_len nodes es s i
    omega
end KA

set_option Elab.async false
set_option linter.all false
set_option maxRecDepth 100000
set_option maxHeartbeats 4000000
namespace KA
open PySem PySem.Spec PyProof.Rows L2 L2.Dx Kx
theorem dpx_names {K : PySem.W.Frag} {H : Hp} : ∀ (rs : List Str), DpxAll K H (rs.map V.str) (rs.map PyData.str)
  | [] => .nil
  | r :: t => .cons (.str _) (dpx_names t)
theorem dpx_ev {K : PySem.W.Frag} {H : Hp} {a : Addr} {e : Ev} (h : EvAt H a e) : Dpx K H (.ref a) (evD e) := by
  cases e with
  | snd x rs => obtain ⟨l, h1, h2⟩ := h; exact .tup (tpI h1) (.cons (.str _) (.cons (.str _) (.cons (.lst (ltI h2) (dpx_names rs)) .nil)))
  | opn x s n => obtain ⟨m, h1, h2⟩ := h; exact .tup (tpI h1) (.cons (.str _) (.cons (.str _) (.cons (.tup (tpI h2) (.cons (.str _) (.cons (.int _) .nil))) .nil)))
theorem dp_ev {K : PySem.W.Frag} {H : Hp} {a : Addr} {e : Ev} (h : EvAt H a e) : Dp K H (.ref a) (evD e) := by
  cases e with
  | snd x rs => obtain ⟨l, h1, h2⟩ := h; exact .tup (tpI h1) (.cons (.str _) (.cons (.str _) (.cons (.lst (ltI h2) (dp_strs rs)) .nil)))
  | opn x s n => obtain ⟨m, h1, h2⟩ := h; exact .tup (tpI h1) (.cons (.str _) (.cons (.str _) (.cons (.tup (tpI h2) (.cons (.str _) (.cons (.int _) .nil))) .nil)))
theorem dpx_evs {K : PySem.W.Frag} {H : Hp} : ∀ {as : List Addr} {es : List Ev}, as.length = es.length → (∀ (i : Nat) (a : Addr) (e : Ev), as[i]? = some a → es[i]? = some e → EvAt H a e) → DpxAll K H (as.map V.ref) (es.map evD)
  | [], [], _, _ => .nil
  | a :: as, e :: es, hl, h => .cons (dpx_ev (h 0 a e rfl rfl)) (dpx_evs (by simpa using hl) fun i b f h1 h2 => h (i + 1) b f h1 h2)
theorem dpx_run {K : PySem.W.Frag} {H : Hp} {R : Addr} {as : List Addr} {es : List Ev} (h : RunAt H R as es) : Dpx K H (.ref R) (.list (es.map evD)) := .lst (ltI h.at') (dpx_evs h.len h.ev)
theorem sm_ev {nodes : List Str} {es : List Ev} (hn : NodesOk nodes) (ok : RunOk nodes es) (hl : es.length ≤ 1000) {i : Nat} {e : Ev} (he : es[i]? = some e) : Sm (evD e) 2 510 := by
  have f := ev_facts hn ok he
  cases e with
  | snd x rs =>
    obtain ⟨h1, h2, h3, _⟩ := f
    refine Sm.tuple (w := 169) (n := 3) (fun d hd => ?_) (Nat.le_refl _)
    simp only [List.mem_cons, List.not_mem_nil, or_false] at hd
    rcases hd with rfl | rfl | rfl
    · exact (sm_name NameOk.send).mono (by decide) (by decide)
    · exact (sm_name (hn.nm _ h1)).mono (by decide) (by decide)
    · exact sm_names (fun r hr => hn.nm r (h2 r hr)) (by omega)
  | opn x s n =>
    obtain ⟨h1, h2, m, rfl, h3, h4⟩ := f
    refine Sm.tuple (w := 169) (n := 3) (fun d hd => ?_) (Nat.le_refl _)
    simp only [List.mem_cons, List.not_mem_nil, or_false] at hd
    rcases hd with rfl | rfl | rfl
    · exact (sm_name NameOk.open').mono (by decide) (by decide)
    · exact (sm_name (hn.nm _ h1)).mono (by decide) (by decide)
    · refine (Sm.tuple (k := 0) (w := 12) (n := 2) (fun d hd => ?_) (Nat.le_refl _)).mono (by decide) (by decide)
      simp only [List.mem_cons, List.not_mem_nil, or_false] at hd
      rcases hd with rfl | rfl
      · exact sm_name (hn.nm _ h2)
      · exact Sm.nat (by omega)
theorem sm_run {nodes : List Str} {es : List Ev} (hn : NodesOk nodes) (ok : RunOk nodes es) (hl : es.length ≤ 900) : Sm (.list (es.map evD)) 3 459900 := by
  refine Sm.list (w := 510) (n := 900) (fun d hd => ?_) (by rw [List.length_map]; exact hl)
  obtain ⟨e, he, rfl⟩ := List.mem_map.mp hd
  obtain ⟨i, hi⟩ := List.mem_iff_getElem?.mp he
  exact sm_ev hn ok (by omega) hi
abbrev bothD (nodes : List Str) (es : List Ev) : PyData := .list [.list (nodes.map .str), .list (es.map evD)]
theorem shown_both {nodes : List Str} {es : List Ev} (hn : NodesOk nodes) (ok : RunOk nodes es) (hl : es.length ≤ 900) : ShownOk (bothD nodes es) := by
  refine (Sm.list (k := 3) (w := 459900) (n := 2) (fun d hd => ?_) (Nat.le_refl _)).shown (by decide) (by decide)
  simp only [List.mem_cons, List.not_mem_nil, or_false] at hd
  rcases hd with rfl | rfl
  · exact (sm_names hn.nm (by have := hn.hi; omega)).mono (by decide) (by decide)
  · exact sm_run hn ok hl
abbrev keyD (t : Msg) : PyData := .tuple [.str t.1, .int ((t.2.1 : Nat) : Int)]
/-- the messages with their receivers as data -/
abbrev msgsD (es : List Ev) (L : List Msg) : PyData := .dict (L.map fun t => (keyD t, .list ((recvAt es t.2.2).map .str)))
theorem dpx_vals {K : PySem.W.Frag} {H : Hp} {es : List Ev} {h : Msg → Addr} : ∀ {L : List Msg}, (∀ t ∈ L, H (h t) = some (.lst ((recvAt es t.2.2).map V.str))) → DpxAll K H (L.map fun t => V.ref (h t)) (L.map fun t => PyData.list ((recvAt es t.2.2).map .str))
  | [], _ => .nil
  | t :: L, hh => .cons (.lst (ltI (hh t List.mem_cons_self)) (dpx_names _)) (dpx_vals fun u hu => hh u (List.mem_cons_of_mem _ hu))
theorem dpx_msgs {K : PySem.W.Frag} {H : Hp} {D : Addr} {es : List Ev} {L : List Msg} {h : Msg → Addr} (hd : Rd H D (.dT (L.map fun t => (keyOf t, V.ref (h t))))) (hh : ∀ t ∈ L, H (h t) = some (.lst ((recvAt es t.2.2).map V.str))) : Dpx K H (.ref D) (msgsD es L) := by
  refine .dt hd ?_ ?_
  · rw [List.map_map, List.map_map]
    rfl
  · rw [List.map_map, List.map_map]
    exact dpx_vals hh
theorem shown_msgs {nodes : List Str} {es : List Ev} (hn : NodesOk nodes) (ok : RunOk nodes es) (hl : es.length ≤ 900) {L : List Msg} (hL : ∀ t ∈ L, t ∈ allMsgs nodes (rsOf nodes es).sends) (hLl : L.length ≤ 2000) : ShownOk (msgsD es L) := by
  refine (Sm.dict (k := 1) (w := 169) (n := 2000) (fun d hd => ?_) (by rw [List.length_map]; exact hLl)).shown (by decide) (by decide)
  obtain ⟨t, ht, rfl⟩ := List.mem_map.mp hd
  obtain ⟨h1, h2, h3, h4⟩ := all_mem (hL t ht)
  obtain ⟨_, hlt, rs, g1, g2⟩ := sends_ok ok (List.mem_of_getElem? h4)
  have f := ev_facts hn ok g1
  refine ⟨(Sm.tuple (k := 0) (w := 12) (n := 2) (fun d hd => ?_) (Nat.le_refl _)).mono (by decide) (by decide), ?_⟩
  · simp only [List.mem_cons, List.not_mem_nil, or_false] at hd
    rcases hd with rfl | rfl
    · exact sm_name (hn.nm _ h1)
    · have h5 : ((rsOf nodes es).sends t.1).length ≤ es.length := sends_len
      exact Sm.nat (by omega)
  · show Sm (.list ((recvAt es t.2.2).map PyData.str)) 1 169
    rw [recvAt_snd g1]
    exact sm_names (fun r hr => hn.nm r (f.2.1 r hr)) (by have := f.2.2.1; omega)
theorem sent_len {nodes : List Str} {es : List Ev} : ∀ k : Nat, (sentMsgs nodes es k).length ≤ k
  | 0 => Nat.le_refl _
  | k + 1 => by
    have ih := @sent_len nodes es k
    show (sentMsgs nodes es k ++ _).length ≤ k + 1
    rw [List.length_append]
    cases es[k]? with
    | none => exact Nat.le_succ_of_le ih
    | some e =>
      cases e with
      | snd x rs => exact Nat.succ_le_succ ih
      | opn x s n => exact Nat.le_succ_of_le ih
/-! ### the seed stands apart -/
theorem seed_tup {H : Hp} {sd a : Addr} {xs : List V} (S : SeedAt H sd) (h : H a = some (.tup xs)) : a ∉ [sd] := by
  obtain ⟨x, y, z, h1, _⟩ := S
  simpa using ne_of h h1 (by intro z; cases z)
theorem seed_strs {H : Hp} {sd a : Addr} {rs : List Str} (S : SeedAt H sd) (h : H a = some (.lst (rs.map V.str))) : a ∉ [sd] := by
  obtain ⟨x, y, z, h1, _⟩ := S
  have : a ≠ sd := by
    rintro rfl
    rw [h] at h1
    cases rs with
    | nil => cases h1
    | cons r t =>
      rw [List.map_cons] at h1
      cases h1
  simpa using this
theorem seed_refs {H : Hp} {sd a : Addr} {as : List Addr} (S : SeedAt H sd) (h : H a = some (.lst (as.map V.ref))) : a ∉ [sd] := by
  obtain ⟨x, y, z, h1, _⟩ := S
  have : a ≠ sd := by
    rintro rfl
    rw [h] at h1
    cases as with
    | nil => cases h1
    | cons r t =>
      rw [List.map_cons] at h1
      cases h1
  simpa using this
theorem EvAt.but {H H' : Hp} {sd a : Addr} {e : Ev} (S : SeedAt H sd) (b : But [sd] H H') (h : EvAt H a e) : EvAt H' a e := by
  cases e with
  | snd x rs => obtain ⟨l, h1, h2⟩ := h; exact ⟨l, b _ _ (seed_tup S h1) h1, b _ _ (seed_strs S h2) h2⟩
  | opn x s n => obtain ⟨l, h1, h2⟩ := h; exact ⟨l, b _ _ (seed_tup S h1) h1, b _ _ (seed_tup S h2) h2⟩
theorem RunAt.but {H H' : Hp} {sd R : Addr} {as : List Addr} {es : List Ev} (S : SeedAt H sd) (b : But [sd] H H') (h : RunAt H R as es) : RunAt H' R as es := ⟨b _ _ (seed_refs S h.at') h.at', h.len, fun i a e h1 h2 => (h.ev i a e h1 h2).but S b⟩
theorem Given.but' {H H' : Hp} {sd N R : Addr} {nodes : List Str} {as : List Addr} {es : List Ev} (S : SeedAt H sd) (b : But [sd] H H') (hN : H N = some (.lst (nodes.map V.str))) (h : RunAt H R as es) : H' N = some (.lst (nodes.map V.str)) ∧ RunAt H' R as es := ⟨b _ _ (seed_strs S hN) hN, h.but S b⟩
/-! ### opens of a message at a node -/
def Ev.isOpn (x s : Str) (n : Int) : Ev → Bool
  | .opn y t m => decide (y = x) && (decide (t = s) && decide (m = n))
  | .snd _ _ => false
theorem isOpn_iff {x s : Str} {n : Int} {e : Ev} : e.isOpn x s n = true ↔ e = .opn x s n := by
  cases e with
  | snd _ _ =>
    constructor
    · intro h; cases h
    · intro h; cases h
  | opn y t m =>
    unfold Ev.isOpn
    simp only [Bool.and_eq_true, decide_eq_true_eq]
    constructor
    · rintro ⟨rfl, rfl, rfl⟩; rfl
    · intro h; cases h; exact ⟨rfl, rfl, rfl⟩
theorem eqv_ev {x s : Str} {n : Int} {e : Ev} : PyData.eqv (evD e) (.tuple [.str "open", .str x, .tuple [.str s, .int n]]) = e.isOpn x s n := by
  cases e with
  | snd y rs =>
    have e : PyData.eqv (.str "send") (.str "open") = false := by decide +kernel
    unfold evD
    simp only [PyData.eqv, PyData.eqvAll] at e ⊢
    rw [e]
    rfl
  | opn y t m =>
    show ((("open" : Str) == "open") && ((y == x) && (((t == s) && ((m == n) && true)) && true))) = _
    unfold Ev.isOpn
    rw [show (("open" : Str) == ("open" : Str)) = true by decide +kernel]
    have be : ∀ {α : Type} [BEq α] [LawfulBEq α] [DecidableEq α] (a b : α), (a == b) = decide (a = b) := fun a b => by
      by_cases h : a = b <;> simp [h]
    rw [be y x, be t s, be m n]
    simp
def opIx (es : List Ev) (x s : Str) (n : Int) : Nat → List Nat
  | 0 => []
  | k + 1 => opIx es x s n k ++ (match es[k]? with
    | some e => if e.isOpn x s n = true then [k] else []
    | none => [])
theorem opIx_mem {es : List Ev} {x s : Str} {n : Int} {i : Nat} : ∀ {k : Nat}, i ∈ opIx es x s n k ↔ i < k ∧ es[i]? = some (.opn x s n)
  | 0 => by
    constructor
    · intro h; cases h
    · intro h; omega
  | k + 1 => by
    show i ∈ opIx es x s n k ++ _ ↔ _
    rw [List.mem_append, opIx_mem (k := k)]
    cases hk : es[k]? with
    | none =>
      constructor
      · rintro (h | h)
        · exact ⟨by omega, h.2⟩
        · cases h
      · rintro ⟨h1, h2⟩
        refine .inl ⟨?_, h2⟩
        rcases Nat.lt_or_ge i k with c | c
        · exact c
        · have : i = k := by omega
          rw [this, hk] at h2
          cases h2
    | some e =>
      by_cases c : e.isOpn x s n = true
      · show _ ∨ i ∈ (if e.isOpn x s n = true then [k] else []) ↔ _
        rw [if_pos c, List.mem_singleton]
        constructor
        · rintro (h | h)
          · exact ⟨by omega, h.2⟩
          · subst h
            exact ⟨by omega, by rw [hk, isOpn_iff.mp c]⟩
        · rintro ⟨h1, h2⟩
          by_cases d : i = k
          · exact .inr d
          · exact .inl ⟨by omega, h2⟩
      · show _ ∨ i ∈ (if e.isOpn x s n = true then [k] else []) ↔ _
        rw [if_neg c]
        constructor
        · rintro (h | h)
          · exact ⟨by omega, h.2⟩
          · cases h
        · rintro ⟨h1, h2⟩
          refine .inl ⟨?_, h2⟩
          rcases Nat.lt_or_ge i k with d | d
          · exact d
          · have : i = k := by omega
            rw [this, hk] at h2
            cases h2
            exact absurd (isOpn_iff.mpr rfl) c
theorem opIx_len {es : List Ev} {x s : Str} {n : Int} : ∀ k : Nat, (opIx es x s n k).length ≤ k
  | 0 => Nat.le_refl _
  | k + 1 => by
    show (opIx es x s n k ++ _).length ≤ k + 1
    rw [List.length_append]
    have := @opIx_len es x s n k
    have h2 : (match es[k]? with
      | some e => if e.isOpn x s n = true then [k] else []
      | none => []).length ≤ 1 := by
      cases es[k]? with
      | none => exact Nat.zero_le _
      | some e =>
        show (if e.isOpn x s n = true then [k] else []).length ≤ 1
        split
        · exact Nat.le_refl _
        · exact Nat.zero_le _
    omega
theorem sends_asc {nodes : List Str} {es : List Ev} {x : Str} : ∀ {k : Nat}, ((Rs.upto nodes es k).sends x).Pairwise (· < ·) ∧ ∀ j ∈ (Rs.upto nodes es k).sends x, j < k
  | 0 => ⟨.nil, fun _ h => nomatch h⟩
  | k + 1 => by
    obtain ⟨h1, h2⟩ := @sends_asc nodes es x k
    cases hk : es[k]? with
    | none =>
      rw [upto_none hk]
      exact ⟨h1, fun j hj => by have := h2 j hj; omega⟩
    | some e =>
      rw [upto_succ hk]
      cases e with
      | opn y s n => exact ⟨h1, fun j hj => by have := h2 j hj; omega⟩
      | snd y rs =>
        show (if x = y then (Rs.upto nodes es k).sends y ++ [k] else (Rs.upto nodes es k).sends x).Pairwise (· < ·) ∧ ∀ j ∈ (if x = y then (Rs.upto nodes es k).sends y ++ [k] else (Rs.upto nodes es k).sends x), j < k + 1
        by_cases c : x = y
        · subst c
          rw [if_pos rfl]
          refine ⟨List.pairwise_append.mpr ⟨h1, List.pairwise_singleton .., fun a ha b hb => ?_⟩, fun j hj => ?_⟩
          · rw [List.mem_singleton.mp hb]
            exact h2 a ha
          · rcases List.mem_append.mp hj with h | h
            · have := h2 j h; omega
            · rw [List.mem_singleton.mp h]; omega
        · rw [if_neg c]
          exact ⟨h1, fun j hj => by have := h2 j hj; omega⟩
theorem sent_inj {nodes : List Str} {es : List Ev} {k : Nat} (ok : OkTo nodes es k) {s s' : Str} {n n' : Int} {j : Nat} (h : sentAt (Rs.upto nodes es k) nodes s n = some j) (h' : sentAt (Rs.upto nodes es k) nodes s' n' = some j) : s = s' ∧ n = n' := by
  obtain ⟨a1, a2, a3, a4⟩ := sentAt_mem h
  obtain ⟨b1, b2, b3, b4⟩ := sentAt_mem h'
  obtain ⟨_, _, rs, g1, _⟩ := sends_ok ok a4
  obtain ⟨_, _, rs', g1', _⟩ := sends_ok ok b4
  rw [g1] at g1'
  cases g1'
  refine ⟨rfl, ?_⟩
  have asc := (@sends_asc nodes es s k).1
  have l1 := (List.getElem?_eq_some_iff.mp a3)
  have l2 := (List.getElem?_eq_some_iff.mp b3)
  obtain ⟨i1, e1⟩ := l1
  obtain ⟨i2, e2⟩ := l2
  rcases Nat.lt_trichotomy (n - 1).toNat (n' - 1).toNat with c | c | c
  · have := List.pairwise_iff_getElem.mp asc _ _ i1 i2 c
    omega
  · omega
  · have := List.pairwise_iff_getElem.mp asc _ _ i2 i1 c
    omega
theorem sent_keep {nodes : List Str} {es : List Ev} {k : Nat} {s : Str} {n : Int} {j : Nat} (h : sentAt (Rs.upto nodes es k) nodes s n = some j) : sentAt (Rs.upto nodes es (k + 1)) nodes s n = some j := by
  cases hk : es[k]? with
  | none => rw [upto_none hk]; exact h
  | some e =>
    rw [upto_succ hk]
    unfold sentAt at h ⊢
    by_cases c : s ∈ nodes ∧ 0 < n
    · rw [if_pos c] at h ⊢
      cases e with
      | opn y t m => exact h
      | snd y rs =>
        show (if s = y then (Rs.upto nodes es k).sends y ++ [k] else (Rs.upto nodes es k).sends s)[(n - 1).toNat]? = some j
        by_cases c2 : s = y
        · subst c2
          rw [if_pos rfl, List.getElem?_append_left (List.getElem?_eq_some_iff.mp h).1]
          exact h
        · rw [if_neg c2]
          exact h
    · rw [if_neg c] at h
      cases h
theorem opens_src {nodes : List Str} {es : List Ev} {x : Str} {p : Nat × Nat} : ∀ {k : Nat}, OkTo nodes es k → p ∈ (Rs.upto nodes es k).opens x → p.2 < k ∧ ∃ s n, es[p.2]? = some (.opn x s n) ∧ sentAt (Rs.upto nodes es k) nodes s n = some p.1
  | 0, _, h => nomatch h
  | k + 1, ok, h => by
    have ih := @opens_src nodes es x p k fun j hj => ok j (by omega)
    have keep : p ∈ (Rs.upto nodes es k).opens x → p.2 < k + 1 ∧ ∃ s n, es[p.2]? = some (.opn x s n) ∧ sentAt (Rs.upto nodes es (k + 1)) nodes s n = some p.1 := fun h => by
      obtain ⟨h1, s, n, h2, h3⟩ := ih h
      exact ⟨by omega, s, n, h2, sent_keep h3⟩
    cases hk : es[k]? with
    | none =>
      rw [upto_none hk] at h
      exact keep h
    | some e =>
      rw [upto_succ hk] at h
      cases e with
      | snd y rs => exact keep h
      | opn y s n =>
        have h : p ∈ (if x = y then (Rs.upto nodes es k).opens y ++ [((sentAt (Rs.upto nodes es k) nodes s n).getD 0, k)] else (Rs.upto nodes es k).opens x) := h
        by_cases c : x = y
        · subst c
          rw [if_pos rfl] at h
          rcases List.mem_append.mp h with h | h
          · exact keep h
          · rw [List.mem_singleton.mp h]
            obtain ⟨j, hj, _⟩ := ok k (by omega) _ hk
            refine ⟨by show k < k + 1; omega, s, n, hk, ?_⟩
            rw [hj]
            exact sent_keep hj
        · rw [if_neg c] at h
          exact keep h
/-- where a message is opened, as two ways tell it -/
theorem open_told {nodes : List Str} {es : List Ev} (ok : RunOk nodes es) {x s : Str} {n : Int} {j : Nat} (hj : sentAt (Rs.upto nodes es es.length) nodes s n = some j) :
    (valV (ops ((Rs.upto nodes es es.length).opens x)) (.inl ((j : Nat) : Int))).getD .non = (match opIx es x s n es.length with
      | [] => V.non
      | i :: _ => V.int (i : Nat)) := by
  cases h : opIx es x s n es.length with
  | nil =>
    have : (valV (ops ((Rs.upto nodes es es.length).opens x)) (.inl ((j : Nat) : Int))).isSome = false := by
      rw [valV_ops, Bool.not_eq_false', List.all_eq_true]
      intro p hp
      rw [decide_eq_true_eq]
      intro e
      obtain ⟨h1, s', n', h2, h3⟩ := opens_src ok hp
      rw [e] at h3
      obtain ⟨rfl, rfl⟩ := sent_inj ok hj h3
      have : p.2 ∈ opIx es x s n es.length := opIx_mem.mpr ⟨h1, h2⟩
      rw [h] at this
      cases this
    cases hv : valV (ops ((Rs.upto nodes es es.length).opens x)) (.inl ((j : Nat) : Int)) with
    | none => rfl
    | some v => rw [hv] at this; cases this
  | cons i t =>
    have hi : i ∈ opIx es x s n es.length := by rw [h]; exact List.mem_cons_self
    obtain ⟨h1, h2⟩ := opIx_mem.mp hi
    obtain ⟨j', k1, k2, k3⟩ := opened_in ok h1 h2
    rw [hj] at k1
    cases k1
    rw [valV_ops_at (opens_nd ok) k3]
    rfl
end KA
namespace KA
open PySem PySem.Spec PyProof.Rows L2 L2.Dx Kx
theorem shaped_opn {x s : Str} {n : Int} (hx : NameOk x) (hs : NameOk s) : SeqAt.shaped (evD (.opn x s n)) = true := by
  unfold SeqAt.shaped
  rw [show (evD (.opn x s n)).canLay0 = ((PyData.canLay0 (.str "open")) && (PyData.canLay0 (.str x) && ((PyData.canLay0 (.str s) && (true && true)) && true))) from rfl, name_strOk hx, name_strOk hs, show PyData.canLay0 (.str "open") = true from by decide +kernel]
  rfl
theorem shaped_snd {x : Str} {rs : List Str} (hx : NameOk x) (hs : ∀ r ∈ rs, NameOk r) : SeqAt.shaped (evD (.snd x rs)) = true := by
  unfold SeqAt.shaped
  rw [show (evD (.snd x rs)).canLay0 = ((PyData.canLay0 (.str "send")) && (PyData.canLay0 (.str x) && (PyData.canLayAll0 (rs.map PyData.str) && true))) from rfl, name_strOk hx, names_canLay hs, show PyData.canLay0 (.str "send") = true from by decide +kernel,
    show (evD (.snd x rs)).depth = max 0 (max 0 (max (PyData.depthAll (rs.map PyData.str) + 1) 0)) + 1 from rfl]
  have := depth_names rs
  simp
  omega
theorem shaped_ev {nodes : List Str} {es : List Ev} (hn : NodesOk nodes) (ok : RunOk nodes es) {i : Nat} {e : Ev} (he : es[i]? = some e) : SeqAt.shaped (evD e) = true := by
  have f := ev_facts hn ok he
  cases e with
  | snd x rs => exact shaped_snd (hn.nm _ f.1) fun r hr => hn.nm r (f.2.1 r hr)
  | opn x s n => exact shaped_opn (hn.nm _ f.1) (hn.nm _ f.2.1)
theorem sent_at {nodes : List Str} {es : List Ev} {t : Msg} (h : t ∈ allMsgs nodes (rsOf nodes es).sends) : sentAt (Rs.upto nodes es es.length) nodes t.1 ((t.2.1 : Nat) : Int) = some t.2.2 := by
  obtain ⟨h1, h2, h3, h4⟩ := all_mem h
  unfold sentAt
  rw [if_pos ⟨h1, by omega⟩, show (((t.2.1 : Nat) : Int) - 1).toNat = t.2.1 - 1 by omega]
  exact h4
def vOf : List Nat → V
  | [] => .non
  | i :: _ => .int (i : Nat)
def dOf : List Nat → PyData
  | [] => .none
  | i :: _ => .int (i : Nat)
theorem dpx_of {K : PySem.W.Frag} {H : Hp} : ∀ l : List Nat, Dpx K H (vOf l) (dOf l)
  | [] => .non
  | _ :: _ => .int _
theorem sm_of : ∀ {l : List Nat}, (∀ i ∈ l, i ≤ 1000) → Sm (dOf l) 0 12
  | [], _ => Sm.non
  | i :: _, h => Sm.nat (h i List.mem_cons_self)
theorem first_of : ∀ l : List Nat, (ixs l ++ [V.non])[0]? = some (vOf l)
  | [] => rfl
  | _ :: _ => rfl
abbrev toldD (j : Nat) (l : List Nat) : PyData := .list [.int ((j : Nat) : Int), dOf l]
theorem shown_told {j : Nat} {l : List Nat} (hj : j ≤ 1000) (hl : ∀ i ∈ l, i ≤ 1000) : ShownOk (toldD j l) := by
  refine (Sm.list (k := 0) (w := 12) (n := 2) (fun d hd => ?_) (Nat.le_refl _)).shown (by decide) (by decide)
  simp only [List.mem_cons, List.not_mem_nil, or_false] at hd
  rcases hd with rfl | rfl
  · exact Sm.nat hj
  · exact sm_of hl
theorem open_told' {nodes : List Str} {es : List Ev} (ok : RunOk nodes es) {x s : Str} {n : Int} {j : Nat} (hj : sentAt (Rs.upto nodes es es.length) nodes s n = some j) :
    (valV (ops ((Rs.upto nodes es es.length).opens x)) (.inl ((j : Nat) : Int))).getD .non = vOf (opIx es x s n es.length) := by
  rw [open_told ok hj]
  cases opIx es x s n es.length <;> rfl
theorem opIx_succ {es : List Ev} {x s : Str} {n : Int} {k : Nat} {e : Ev} (h : es[k]? = some e) : opIx es x s n (k + 1) = opIx es x s n k ++ (if e.isOpn x s n = true then [k] else []) := by
  show opIx es x s n k ++ (match es[k]? with
    | some e => if e.isOpn x s n = true then [k] else []
    | none => []) = _
  rw [h]
end KA

set_option Elab.async false
set_option linter.all false
set_option maxRecDepth 100000
set_option maxHeartbeats 16000000
namespace KA
open PySem PySem.Spec PyProof.Rows L2 L2.Dx Kx
section
variable {P : Program} {w : World} {K : PySem.W.Frag} {mg : Str → Option Value} {base : Heap}
def sp__law_right : Sp := fun vs H Q _ => ∃ (sd N R : Addr) (nodes : List Str) (as : List Addr) (es : List Ev), vs = [.ref sd, .ref N, .ref R] ∧ SeedAt H sd ∧ H N = some (.lst (nodes.map V.str)) ∧ NodesOk nodes ∧ RunAt H R as es ∧ es.length ≤ 160 ∧ RunOk nodes es ∧
  ∀ (H' : Hp), But [sd] H H' → SeedAt H' sd → Q (.bl true) H'
theorem ok__law_right (T : Txt K mg) : FnG P w K mg base CX0 5 T.f__law_right T.fd__law_right ["seed", "nodes", "run"] sp__law_right := by
  refine L2.Dx.Fun.okG T.F__law_right sc__law_right (fun vs H Q E h => ?_) (fun cdv A outer s H vs Q E hr hgd h => ?_)
  · obtain ⟨sd, N, R, nodes, as, es, rfl, _⟩ := h
    rfl
  · obtain ⟨sd, N, R, nodes, as, es, rfl, hS, hN, hn, hR, hlen, ok, q⟩ := h
    refine ⟨_, (pss_cons (ps_asg (pe_tup (pa_cons (pe_callB (call_reprG hgd hr.units) (by rfl) T.m_repr (by decide +kernel) (pa_cons (pe_lst (pa_cons (pv 1) (pa_cons (pv 2) pa_nil))) pa_nil)) (pa_cons (pe_call (ok__law_sends T) (hr.mono (by decide)) rfl T.M__law_sends T.F__law_sends.kp (b__law_sends T) .nil pass0 (pa_cons (pv 2) pa_nil)) pa_nil))) (pg_tup rfl (pgs_cons (pg_name (i := 3) sc__law_right.nd rfl (by first | exact .inl rfl | exact .inr rfl)) (pgs_cons (pg_name (i := 4) sc__law_right.nd rfl (by first | exact .inl rfl | exact .inr rfl)) pgs_nil))))
    (pss_cons (ps_set (i := 5) sc__law_right.nd rfl (by first | exact .inl rfl | exact .inr rfl) (pe_callTy (call_dictT rfl hr.units) (by rfl) T.m_dict (by decide +kernel) (pa_cons (pe_lc (own := [("message", 8)]) rfl sc__law_right.nd (pi_list (pe_callB (cr_sortedDT rfl hr.units) (by rfl) T.m_sorted (by decide +kernel) (pa_cons (pv 4) pa_nil))) (blkOk_by (N := ["seed", "nodes", "run", "kept", "sends", "due", "again", "told", "message", "messages", "turn", "node", "opens", "index", "event"]) (sc := defScope s__law_right) (by decide +kernel)) (fun _ _ _ _ _ => (pg_name (i := 8) sc__law_right.nd rfl (by first | exact .inl rfl | exact .inr rfl))) (fun _ _ _ _ _ => pts_nil) (fun _ _ _ _ _ => (pe_tup (pa_cons (pv 8) (pa_cons (pe_callTy (call_list_ofK (K := K) rfl) (by rfl) T.m_list (by decide +kernel) (pa_cons (pe_ix (ix_tupK (K := K) rfl) (pe_dget (hu_of hr) (pv 4) (pv 8) (fun _ _ => rfl)) pe_int (fun _ _ => rfl)) pa_nil)) pa_nil))))) pa_nil)))
    (pss_cons (ps_for PassesOwn.never rfl (pi_range1 (by rfl) T.m_range (pa_cons pe_int pa_nil)) (pg_name (i := 6) sc__law_right.nd rfl (by first | exact .inl rfl | exact .inr rfl))
      (pss_cons (ps_set (i := 7) sc__law_right.nd rfl (by first | exact .inl rfl | exact .inr rfl) (pe_call (ok_messages_of T) (hr.mono (by decide)) rfl T.M_messages_of T.F_messages_of.kp (b_messages_of T) .nil pass0 (pa_cons (pv 1) (pa_cons (pv 2) pa_nil))))
      (pss_cons (ps_if (pt_cmpR op_ne (pe_callB (call_reprG hgd hr.units) (by rfl) T.m_repr (by decide +kernel) (pa_cons (pv 7) pa_nil)) (pe_callB (call_reprG hgd hr.units) (by rfl) T.m_repr (by decide +kernel) (pa_cons (pv 5) pa_nil)) (nomark _))
        (pss_one (ps_ret pe_bl))
        pss_nil)
      (pss_cons (ps_for PassesOwn.never rfl (pi_list (pe_callTy (call_list_dT rfl) (by rfl) T.m_list (by decide +kernel) (pa_cons (pv 7) pa_nil))) (pg_name (i := 8) sc__law_right.nd rfl (by first | exact .inl rfl | exact .inr rfl))
        (pss_one (ps_expr (pe_bm PySem.F.plainAttrs_list PySem.F.slot_list_append PySem.F.type_list_append mt_append (pe_dget (hu_of hr) (pv 7) (pv 8) (fun _ _ => rfl)) (pa_cons pe_str pa_nil)))))
      (pss_cons (ps_if (pt_cmpR (op_neD hr.units) (pe_lock (pe_lc (own := [("message", 8)]) rfl sc__law_right.nd (pi_keys (pv 5)) (blkOk_by (N := ["seed", "nodes", "run", "kept", "sends", "due", "again", "told", "message", "messages", "turn", "node", "opens", "index", "event"]) (sc := defScope s__law_right) (by decide +kernel)) (fun _ _ _ _ _ => (pg_name (i := 8) sc__law_right.nd rfl (by first | exact .inl rfl | exact .inr rfl))) (fun _ _ _ _ _ => (pts_one (pt_cmpR (op_neDK (K := K) rfl hr.units) (pe_dget (hu_of hr) (pv 7) (pv 8) (fun _ _ => rfl)) (pe_op op_cat (pe_dget (hu_of hr) (pv 5) (pv 8) (fun _ _ => rfl)) (pe_lst (pa_cons pe_str pa_nil))) (nomark _)))) (fun _ _ _ _ _ => (pv 8)))) (pe_lst pa_nil) (nomark _))
        (pss_one (ps_ret pe_bl))
        pss_nil)
      (pss_one (ps_expr (pe_dclearT (pv 7)))))))))
    (pss_cons (ps_set (i := 9) sc__law_right.nd rfl (by first | exact .inl rfl | exact .inr rfl) (pe_callB (cr_sortedDT rfl hr.units) (by rfl) T.m_sorted (by decide +kernel) (pa_cons (pv 4) pa_nil)))
    (pss_cons (ps_for PassesOwn.never rfl (pi_range1 (by rfl) T.m_range (pa_cons (pe_callB (call_min2 rfl) (by rfl) T.m_min (by decide +kernel) (pa_cons (pe_callB call_len_seq (by rfl) T.m_len PySem.boot_len (pa_cons (pv 9) pa_nil)) (pa_cons pe_int pa_nil))) pa_nil)) (pg_name (i := 10) sc__law_right.nd rfl (by first | exact .inl rfl | exact .inr rfl))
      (pss_cons (ps_asg (pe_tup (pa_cons (pe_ix ix_list (pv 9) (pe_call (ok__law_next T) (hr.mono (by decide)) rfl T.M__law_next T.F__law_next.kp (b__law_next T) .nil pass0 (pa_cons (pv 0) (pa_cons (pe_callB call_len_seq (by rfl) T.m_len PySem.boot_len (pa_cons (pv 9) pa_nil)) pa_nil))) (fun _ _ => rfl)) (pa_cons (pe_ix ix_list (pv 1) (pe_call (ok__law_next T) (hr.mono (by decide)) rfl T.M__law_next T.F__law_next.kp (b__law_next T) .nil pass0 (pa_cons (pv 0) (pa_cons (pe_callB call_len_seq (by rfl) T.m_len PySem.boot_len (pa_cons (pv 1) pa_nil)) pa_nil))) (fun _ _ => rfl)) pa_nil))) (pg_tup rfl (pgs_cons (pg_name (i := 8) sc__law_right.nd rfl (by first | exact .inl rfl | exact .inr rfl)) (pgs_cons (pg_name (i := 11) sc__law_right.nd rfl (by first | exact .inl rfl | exact .inr rfl)) pgs_nil))))
      (pss_cons (ps_setLc (i := 12) (own := [("index", 13), ("event", 14)]) rfl sc__law_right.nd rfl rfl (sw_true rfl rfl rfl (by decide +kernel)) (pi_enum (by rfl) T.m_enumerate (pa_cons (pv 2) pa_nil)) (blkOk_by (N := ["seed", "nodes", "run", "kept", "sends", "due", "again", "told", "message", "messages", "turn", "node", "opens", "index", "event"]) (sc := defScope s__law_right) (by decide +kernel)) (fun _ _ _ _ _ => (pg_tupK (K := K) rfl 2 rfl (pgs_cons (pg_name (i := 13) sc__law_right.nd rfl (by first | exact .inl rfl | exact .inr rfl)) (pgs_cons (pg_name (i := 14) sc__law_right.nd rfl (by first | exact .inl rfl | exact .inr rfl)) pgs_nil)))) (fun _ _ _ _ _ => (pts_one (pt_cmpR (op_eqDK (K := K) rfl hr.units) (pv 14) (pe_tup (pa_cons pe_str (pa_cons (pv 11) (pa_cons (pv 8) pa_nil)))) (nomark _)))) (fun _ _ _ _ _ => (pv 13)))
      (pss_cons (ps_set (i := 7) sc__law_right.nd rfl (by first | exact .inl rfl | exact .inr rfl) (pe_lst (pa_cons (pe_call (ok_send_index T) (hr.mono (by decide)) rfl T.M_send_index T.F_send_index.kp (b_send_index T) .nil pass0 (pa_cons (pv 1) (pa_cons (pv 2) (pa_cons (pv 8) pa_nil)))) (pa_cons (pe_call (ok_open_index T) (hr.mono (by decide)) rfl T.M_open_index T.F_open_index.kp (b_open_index T) .nil pass0 (pa_cons (pv 1) (pa_cons (pv 2) (pa_cons (pv 8) (pa_cons (pv 11) pa_nil))))) pa_nil))))
      (pss_one (ps_if (pt_cmpR op_ne (pe_callB (call_reprG hgd hr.units) (by rfl) T.m_repr (by decide +kernel) (pa_cons (pv 7) pa_nil)) (pe_callB (call_reprG hgd hr.units) (by rfl) T.m_repr (by decide +kernel) (pa_cons (pe_lst (pa_cons (pe_ix ix_tup (pe_dget (hu_of hr) (pv 4) (pv 8) (fun _ _ => rfl)) pe_int (fun _ _ => rfl)) (pa_cons (pe_ix ix_list (pe_op op_cat (pv 12) (pe_lst (pa_cons pe_non pa_nil))) pe_int (fun _ _ => rfl)) pa_nil))) pa_nil)) (nomark _))
        (pss_one (ps_ret pe_bl))
        pss_nil))))))
    (pss_one (ps_ret (pe_cmpR op_eq (pe_callB (call_reprG hgd hr.units) (by rfl) T.m_repr (by decide +kernel) (pa_cons (pe_lst (pa_cons (pv 1) (pa_cons (pv 2) pa_nil))) pa_nil)) (pv 3) (nomark _))))))))), ?_⟩
    have n12 := hn.hi
    have n2 := hn.lo
    have mvG : ∀ {H' : Hp}, But [sd] H H' → Given H' N R nodes as es := fun b => ⟨(Given.but' hS b hN hR).1, hn, (Given.but' hS b hN hR).2, by omega, texts_of hn ok⟩
    have dpB : ∀ {H' : Hp}, But [sd] H H' → DpxAll K H' [.ref N, .ref R] [.list (nodes.map .str), .list (es.map evD)] := fun b => .cons (.lst (ltI (mvG b).n) (dpx_names nodes)) (.cons (dpx_run (mvG b).r) .nil)
    -- kept, sends
    refine ⟨.ref N, rfl, .ref R, rfl, by show 2 ≤ sizeLine; decide, fun L1 hL1 => ⟨L1, bothD nodes es, rfl, .lst (ltI upd_same) (dpB (But.same (same_new hL1))), shown_both hn ok (by omega), ?_⟩⟩
    have b1 : But [sd] H (upd H L1 (.lst [.ref N, .ref R])) := But.same (same_new hL1)
    have s1 : Same H (upd H L1 (.lst [.ref N, .ref R])) := same_new hL1
    generalize upd H L1 (.lst [.ref N, .ref R]) = H1 at b1 s1 ⊢
    refine ⟨.ref R, rfl, R, nodes, as, es, rfl, (mvG b1).r, by omega, hn, ok, fun H2 D g s2 hD hSent => ?_⟩
    refine ⟨by show 2 ≤ sizeLine; decide, fun Tp hT => ⟨Tp, _, rfl, tpI upd_same, rfl, _, _, rfl, _, _, rfl, rfl, ?_⟩⟩
    have tT := same_new (o := .tup [.str (bothD nodes es).shown, .ref D]) hT
    have s3 := (s1.trans s2).trans tT
    have hS3 := hSent.same tT
    generalize upd H2 Tp (.tup [.str (bothD nodes es).shown, .ref D]) = H3 at s3 hS3 ⊢
    clear tT hT s2 hSent hD s1 b1 hL1
    have hLs : (sentMsgs nodes es es.length).length ≤ 160 := Nat.le_trans (sent_len _) hlen
    have hperm : (allMsgs nodes (rsOf nodes es).sends).Perm (sentMsgs nodes es es.length) := (List.perm_ext_iff_of_nodup (all_nodup hn.asc) (sent_nodup _)).mpr fun t => (@sent_iff nodes es t _ ok).symm
    have hsort := sent_sort hn ok
    obtain ⟨A0, hA⟩ : ∃ A0, A0 = allMsgs nodes (rsOf nodes es).sends := ⟨_, rfl⟩
    have hAn : A0.Nodup := hA ▸ all_nodup hn.asc
    have hAl : A0.length ≤ 160 := by rw [hA, hperm.length_eq]; exact hLs
    have hAin : ∀ t ∈ A0, t ∈ sentMsgs nodes es es.length := fun t ht => hperm.subset (hA ▸ ht)
    have hAll : ∀ t ∈ A0, t ∈ allMsgs nodes (rsOf nodes es).sends := fun t ht => hA ▸ ht
    have kinj : ∀ {t u : Msg}, t ∈ A0 → u ∈ A0 → keyOf t = keyOf u → t = u := fun ht hu e => key_inj (hAll _ ht) (hAll _ hu) e
    rw [← hA] at hsort
    -- sorted(sends)
    refine ⟨.ref D, rfl, D, _, (sentMsgs nodes es es.length).map msOf, rfl, .inl hS3.at', by rw [List.map_map, List.map_map]; rfl, fun So bs hSo hbs => ?_⟩
    rw [hsort] at hbs
    obtain ⟨kb, rfl, hkb⟩ := Paired.fn msOf hbs hAn
    have s4 : Same H (upd H3 So (.lst ((A0.map kb).map V.ref))) := s3.trans (same_new hSo)
    have hS4 := hS3.same (same_new (o := .lst ((A0.map kb).map V.ref)) hSo)
    have hkb4 : ∀ t ∈ A0, (upd H3 So (.lst ((A0.map kb).map V.ref))) (kb t) = some (.tup [.str t.1, .int ((t.2.1 : Nat) : Int)]) := fun t ht => same_new hSo _ _ (hkb t ht)
    have hSo4 : (upd H3 So (.lst ((A0.map kb).map V.ref))) So = some (.lst ((A0.map kb).map V.ref)) := upd_same
    generalize upd H3 So (.lst ((A0.map kb).map V.ref)) = H4 at s4 hS4 hkb4 hSo4 ⊢
    clear s3 hS3 hkb hbs hSo
    refine ⟨So, rfl, ⟨_, ltI hSo4⟩, fun Dl hDl => lc_list (xs := (A0.map kb).map V.ref) (fun i H' => Same H4 H' ∧ ∃ pr h : Msg → Addr, H' Dl = some (.lst ((A0.take i).map fun t => V.ref (pr t))) ∧ ∀ t ∈ A0.take i, H' (pr t) = some (.tup [.ref (kb t), .ref (h t)]) ∧ H' (h t) = some (.lst ((recvAt es t.2.2).map V.str)) ∧ h t ≠ Dl) ?_ ?_ ?_ ?_⟩
    · exact ⟨same_new hDl, fun _ => 0, fun _ => 0, upd_same, fun t ht => by simp at ht⟩
    · exact fun i H' _ hI => ltI (hI.1 _ _ hSo4)
    · rintro i v H5 hv ⟨sm, pr, h, hl, hown⟩
      rw [List.map_map, List.getElem?_map] at hv
      obtain ⟨t, ht, rfl⟩ := Option.map_eq_some_iff.mp hv
      have htA := List.mem_of_getElem? ht
      have hk5 := sm _ _ (hkb4 t htA)
      obtain ⟨l, a, ha, hal, hg⟩ := (hS4.same sm).own t (hAin t htA)
      have hval : valV ((sentMsgs nodes es es.length).map fun t => (keyOf t, V.ref (g t))) (keyOf t) = some (.ref (g t)) := valT_in (h := fun t => V.ref (g t)) (hAin t htA) fun u hu e => sent_key ok (hAin t htA) hu e
      refine ⟨by simp [wipe, List.set_set], ?_⟩
      dsimp only [tYes]
      rw [if_pos rfl]
      obtain ⟨e, hev⟩ : ∃ e, es[t.2.2]? = some e := ⟨_, List.getElem?_eq_getElem (by rw [← hR.len]; exact (List.getElem?_eq_some_iff.mp ha).1)⟩
      have hevA := ((mvG (But.same (s4.trans sm))).r.ev t.2.2 a e ha hev)
      have hrl : H5 l = some (.lst ((recvAt es t.2.2).map V.str)) := by
        cases e with
        | snd y rs =>
          obtain ⟨l', e1, e2⟩ := hevA
          rw [hal] at e1
          cases e1
          rw [recvAt_snd hev]
          exact e2
        | opn y s n =>
          obtain ⟨m, e1, _⟩ := hevA
          rw [hal] at e1
          cases e1
      refine ⟨.ref (kb t), rfl, .ref D, rfl, .ref (kb t), rfl, D, .ref (g t), rfl, ?_, ?_⟩
      · rw [← hval]
        exact DGet.t (k := keyOf t) (hS4.same sm).at' hk5
      refine ⟨g t, _, 1, .ref l, rfl, rfl, tpI hg, atI_nat (j := 1) rfl, l, _, rfl, .inl (ltI hrl), fun c hc => ⟨by show 2 ≤ sizeLine; decide, fun p hp => ?_⟩⟩
      have tc := same_new (o := .lst ((recvAt es t.2.2).map V.str)) hc
      have tp := same_new (o := .tup [.ref (kb t), .ref c]) hp
      have tt := tc.trans tp
      have hl6 := tt _ _ hl
      refine ⟨_, hl6, small1000 (by rw [List.length_map]; have := List.length_take_le' i A0; omega), same_put (sm.trans tt) hDl, (fun u => if u = t then p else pr u), (fun u => if u = t then c else h u), ?_, ?_⟩
      · have nt : t ∉ A0.take i := notin_take hAn ht
        rw [upd_same, take_snoc ht, List.map_append]
        congr 3
        · exact List.map_congr_left fun u hu => congrArg V.ref (if_neg (fun z : u = t => nt (by rw [← z]; exact hu))).symm
        · show [V.ref p] = [V.ref (if t = t then p else pr t)]
          rw [if_pos rfl]
      · intro u hu
        have pD : p ≠ Dl := (ne_of_none hl hc |> fun _ => fun z => by rw [z, tc _ _ hl] at hp; cases hp)
        have cD : c ≠ Dl := fun z => by rw [z, hl] at hc; cases hc
        by_cases e : u = t
        · subst e
          show upd _ Dl _ (if u = u then p else pr u) = some (.tup [.ref (kb u), .ref (if u = u then c else h u)]) ∧ upd _ Dl _ (if u = u then c else h u) = _ ∧ (if u = u then c else h u) ≠ Dl
          rw [if_pos rfl, if_pos rfl]
          exact ⟨(upd_ne pD).trans upd_same, (upd_ne cD).trans (tp _ _ upd_same), cD⟩
        · show upd _ Dl _ (if u = t then p else pr u) = some (.tup [.ref (kb u), .ref (if u = t then c else h u)]) ∧ upd _ Dl _ (if u = t then c else h u) = _ ∧ (if u = t then c else h u) ≠ Dl
          rw [if_neg e, if_neg e]
          rw [take_snoc ht] at hu
          obtain ⟨w1, w2, w3⟩ := hown u ((List.mem_append.mp hu).resolve_right fun z => e (List.mem_singleton.mp z))
          exact ⟨(upd_ne (ne_of w1 hl (by intro z; cases z))).trans (tt _ _ w1), (upd_ne w3).trans (tt _ _ w2), w3⟩
    rintro H5 ⟨sm, pr, h, hl, hown⟩
    rw [List.length_map, List.length_map, List.take_length] at hl hown
    have s5 := s4.trans sm
    have hS5 := hS4.same sm
    have hkb5 : ∀ t ∈ A0, H5 (kb t) = some (.tup [.str t.1, .int ((t.2.1 : Nat) : Int)]) := fun t ht => sm _ _ (hkb4 t ht)
    clear hkb4 hSo4 hS4 s4 sm hDl
    refine ⟨Dl, A0.map fun t => (pr t, kb t, (keyOf t, V.ref (h t))), rfl, ltI (by rw [List.map_map]; exact hl), fun x hx => ?_, ?_, fun U hU => ?_⟩
    · obtain ⟨t, ht, rfl⟩ := List.mem_map.mp hx
      exact ⟨tpI (hown t ht).1, hkb5 t ht⟩
    · rw [List.map_map]
      exact List.Pairwise.map (S := fun a b => a ≠ b) _ (fun a b h => h) (hAn.imp_of_mem fun {a b} ha hb ne => show keyOf a ≠ keyOf b from fun e => ne (kinj ha hb e))
    rw [List.map_map]
    have tU := same_new (o := .dT (A0.map ((fun t => t.2.2) ∘ fun t => (pr t, kb t, (keyOf t, V.ref (h t)))))) hU
    have s6 := s5.trans tU
    have hS6 := hS5.same tU
    have hU6 : (upd H5 U (.dT (A0.map ((fun t => t.2.2) ∘ fun t => (pr t, kb t, (keyOf t, V.ref (h t))))))) U = some (.dT (A0.map fun t => (keyOf t, V.ref (h t)))) := upd_same
    have hown6 : ∀ t ∈ A0, (upd H5 U (.dT (A0.map ((fun t => t.2.2) ∘ fun t => (pr t, kb t, (keyOf t, V.ref (h t))))))) (h t) = some (.lst ((recvAt es t.2.2).map V.str)) := fun t ht => tU _ _ (hown t ht).2.1
    generalize upd H5 U (.dT (A0.map ((fun t => t.2.2) ∘ fun t => (pr t, kb t, (keyOf t, V.ref (h t)))))) = H6 at s6 hS6 hU6 hown6 ⊢
    clear tU s5 hS5 hown hl hU hkb5
    have shM : ShownOk (msgsD es A0) := shown_msgs hn ok (by omega) hAll (by omega)
    have rvl : ∀ t ∈ A0, (recvAt es t.2.2).length ≤ 12 ∧ ∀ r ∈ recvAt es t.2.2, NameOk r := fun t ht => by
      obtain ⟨h1, h2, h3, h4⟩ := all_mem (hAll t ht)
      obtain ⟨_, hlt, rs, g1, g2⟩ := sends_ok ok (List.mem_of_getElem? h4)
      have f := ev_facts hn ok g1
      rw [recvAt_snd g1]
      exact ⟨f.2.2.1, fun r hr => hn.nm r (f.2.1 r hr)⟩
    -- again
    refine ⟨2, rfl, by decide, by decide, for_range (fun i σ H' => Same H6 H' ∧ ∃ y6 y7 y8 y9 y10 y11 y12 y13 y14, σ = [some (.ref sd), some (.ref N), some (.ref R), some (.str (bothD nodes es).shown), some (.ref D), some (.ref U), y6, y7, y8, y9, y10, y11, y12, y13, y14]) ?_ ?_ ?_⟩
    · exact ⟨fun _ _ h => h, _, _, _, _, _, _, _, _, _, rfl⟩
    · rintro i σ H7 hi ⟨s7, y6, y7, y8, y9, y10, y11, y12, y13, y14, rfl⟩
      refine ⟨.ref N, rfl, .ref R, rfl, N, R, nodes, as, es, rfl, mvG (But.same (s6.trans s7)), ok, fun H8 TD h8 s8 hTD M8 => ?_⟩
      rw [← hA] at M8
      have s78 := s7.trans s8
      refine ⟨.ref TD, rfl, TD, msgsD es A0, rfl, dpx_msgs (.inl M8.at') (fun t ht => (M8.own t ht).1), shM, .ref U, rfl, U, msgsD es A0, rfl, dpx_msgs (.inl (s78 _ _ hU6)) (fun t ht => s78 _ _ (hown6 t ht)), shM, rfl, false, ?_, iteF ?_⟩
      · simp
      -- list(told)
      refine ⟨.ref TD, rfl, TD, _, rfl, .inl M8.at', fun Pl bs hPl hkeys => ?_⟩
      obtain ⟨kc, rfl, hkc⟩ := Paired.fn (R := fun (p : List Key × V) b => H8 b = some (.tup (p.1.map kV))) (fun t => (keyOf t, V.ref (h8 t))) hkeys hAn
      have hTD0 : H7 TD = none := hTD
      have Pl0 : H7 Pl = none := s8.free hPl
      have nPT : Pl ≠ TD := fun z => by rw [z, M8.at'] at hPl; cases hPl
      refine ⟨Pl, rfl, ⟨_, ltI upd_same⟩, for_list (xs := (A0.map kc).map V.ref) (fun i σ H' => Same H7 H' ∧ H' TD = some (.dT (A0.map fun t => (keyOf t, V.ref (h8 t)))) ∧ H' Pl = some (.lst ((A0.map kc).map V.ref)) ∧ (∀ t ∈ A0, H' (kc t) = some (.tup ((keyOf t).map kV))) ∧ (∀ t ∈ A0, H' (h8 t) = some (.lst ((recvAt es t.2.2 ++ (if t ∈ A0.take i then [("odd" : Str)] else [])).map V.str))) ∧ ∃ y6 y8, σ = [some (.ref sd), some (.ref N), some (.ref R), some (.str (bothD nodes es).shown), some (.ref D), some (.ref U), y6, some (.ref TD), y8, y9, y10, y11, y12, y13, y14]) ?_ ?_ ?_ ?_⟩
      · have tP := same_new (o := .lst ((A0.map kc).map V.ref)) hPl
        refine ⟨s8.trans tP, tP _ _ M8.at', upd_same, fun t ht => tP _ _ (hkc t ht), fun t ht => ?_, _, _, rfl⟩
        rw [show (if t ∈ A0.take 0 then [("odd" : Str)] else []) = [] from if_neg (by simp), List.append_nil]
        exact tP _ _ (M8.own t ht).1
      · exact fun i σ H' _ hI => ltI hI.2.2.1
      · rintro k v σ H9 hv ⟨s9, hT9, hP9, hk9, ho9, z6, y8, rfl⟩
        rw [List.map_map, List.getElem?_map] at hv
        obtain ⟨t, ht, rfl⟩ := Option.map_eq_some_iff.mp hv
        have htA := List.mem_of_getElem? ht
        have nt : t ∉ A0.take k := notin_take hAn ht
        have hval : valV (A0.map fun t => (keyOf t, V.ref (h8 t))) (keyOf t) = some (.ref (h8 t)) := valT_in (h := fun t => V.ref (h8 t)) htA fun u hu e => kinj htA hu e
        have hot := ho9 t htA
        rw [if_neg nt, List.append_nil] at hot
        have hn8 : H8 (h8 t) = some (.lst ((recvAt es t.2.2).map V.str)) := (M8.own t htA).1
        refine ⟨.ref TD, rfl, .ref (kc t), rfl, TD, .ref (h8 t), rfl, by rw [← hval]; exact DGet.t (k := keyOf t) hT9 (hk9 t htA), .inl ⟨rfl, _, .inl (.inl hot)⟩, h8 t, _, _, rfl, rfl, hot, small1000 (by rw [List.length_map]; have := (rvl t htA).1; omega), ?_⟩
        refine ⟨same_put s9 (M8.own t htA).2.1, (upd_ne (Ne.symm (M8.own t htA).2.2)).trans hT9, (upd_ne (fun z => by rw [z, hn8] at hPl; cases hPl)).trans hP9, fun u hu => (upd_ne (ne_of (hk9 u hu) hot (by intro z; cases z))).trans (hk9 u hu), fun u hu => ?_, _, _, rfl⟩
        rw [take_snoc ht]
        by_cases e : u = t
        · subst e
          rw [upd_same, if_pos (by simp), List.map_append]
          rfl
        · rw [upd_ne (fun z => e (M8.inj u hu t htA z)), ho9 u hu]
          congr 4
          by_cases c : u ∈ A0.take k
          · rw [if_pos c, if_pos (List.mem_append_left _ c)]
          · rw [if_neg c, if_neg (by simp [c, e])]
      · rintro σ H9 ⟨s9, hT9, hP9, hk9, ho9, z6, y8, rfl⟩
        rw [List.length_map, List.length_map, List.take_length] at ho9
        have s69 := s7.trans s9
        have hU9 := s69 _ _ hU6
        -- told[message] != due[message] + ["odd"]
        refine ⟨U, _, hU9, True.intro, fun od => ⟨.ref U, rfl, U, od, rfl, .inr ⟨_, upd_same, fun E2 hE2 => ?_⟩⟩⟩
        have nUE : U ≠ E2 := fun z => by
          rw [z, upd_same] at hE2
          cases hE2
        have hE0 : H9 E2 = none := by rw [← hE2, upd_ne (Ne.symm nUE)]
        have nUT : TD ≠ U := fun z => by
          rw [z] at hTD0
          rw [s7 _ _ hU6] at hTD0
          cases hTD0
        have uL : ∀ {b : Addr} {xs : List V}, H9 b = some (.lst xs) → b ≠ U := fun hb => ne_of hb hU9 (by intro z; cases z)
        refine lc_keysT (fun i H => (∀ b o, b ≠ U → H9 b = some o → H b = some o) ∧ H U = some (.frz od (.dT (A0.map fun t => (keyOf t, V.ref (h t))))) ∧ H E2 = some (.lst [])) ⟨?_, ?_, upd_same⟩ (fun i H _ hI => hI.2.1) ?_ ?_
        · exact fun b o hb ho => (upd_ne (ne_of_none ho hE0)).trans ((upd_ne hb).trans ho)
        · exact (upd_ne nUE).trans upd_same
        · rintro k ky v qk H10 hk hq ⟨h1, h2, h3⟩
          rw [List.getElem?_map] at hk
          obtain ⟨t, ht, ek⟩ := Option.map_eq_some_iff.mp hk
          cases ek
          have htA := List.mem_of_getElem? ht
          have hv1 : valV (A0.map fun t => (keyOf t, V.ref (h8 t))) (keyOf t) = some (.ref (h8 t)) := valT_in (h := fun t => V.ref (h8 t)) htA fun u hu e => kinj htA hu e
          have hv2 : valV (A0.map fun t => (keyOf t, V.ref (h t))) (keyOf t) = some (.ref (h t)) := valT_in (h := fun t => V.ref (h t)) htA fun u hu e => kinj htA hu e
          have hot := ho9 t htA
          rw [if_pos htA] at hot
          have hdu := s69 _ _ (hown6 t htA)
          have hT10 := h1 _ _ nUT hT9
          have hot10 := h1 _ _ (uL hot) hot
          have hdu10 := h1 _ _ (uL hdu) hdu
          refine ⟨by simp [wipe, List.set_set], .ref TD, rfl, .ref qk, rfl, TD, .ref (h8 t), rfl, by rw [← hv1]; exact DGet.t (k := keyOf t) hT10 hq, .ref U, rfl, .ref qk, rfl, U, .ref (h t), rfl, .inr ⟨_, keyOf t, qk, .inr ⟨od, h2⟩, rfl, hq, hv2.symm⟩, by show 1 ≤ sizeLine; decide, fun o1 ho1 => ?_⟩
          have t1 := same_new (o := .lst [V.str "odd"]) ho1
          refine ⟨h t, o1, _, _, rfl, rfl, t1 _ _ hdu10, upd_same, ?_, fun o2 ho2 => ?_⟩
          · rw [List.length_map]
            have := (rvl t htA).1
            exact Nat.le_trans (by show (recvAt es t.2.2).length + 1 ≤ 1000; omega) (by decide)
          have t2 := t1.trans (same_new (o := .lst ((recvAt es t.2.2).map V.str ++ [V.str "odd"])) ho2)
          have hn13 : ∀ r ∈ recvAt es t.2.2 ++ [("odd" : Str)], PyData.canLay0 (.str r) = true := by
            intro r hr
            rcases List.mem_append.mp hr with hr | hr
            · exact name_strOk ((rvl t htA).2 r hr)
            · rw [List.mem_singleton.mp hr]
              decide +kernel
          have shp : SeqAt.shaped (.list ((recvAt es t.2.2 ++ [("odd" : Str)]).map PyData.str)) = true := by
            have lay : ∀ {rs : List Str}, (∀ r ∈ rs, PyData.canLay0 (.str r) = true) → PyData.canLayAll0 (rs.map PyData.str) = true := by
              intro rs
              induction rs with
              | nil => exact fun _ => rfl
              | cons r t ih =>
                intro h
                show (PyData.canLay0 (.str r) && PyData.canLayAll0 (t.map PyData.str)) = true
                rw [h r List.mem_cons_self, ih fun y hy => h y (List.mem_cons_of_mem _ hy)]
                rfl
            unfold SeqAt.shaped
            rw [show (PyData.list ((recvAt es t.2.2 ++ [("odd" : Str)]).map PyData.str)).canLay0 = PyData.canLayAll0 ((recvAt es t.2.2 ++ [("odd" : Str)]).map PyData.str) from rfl, lay hn13, show (PyData.list ((recvAt es t.2.2 ++ [("odd" : Str)]).map PyData.str)).depth = PyData.depthAll ((recvAt es t.2.2 ++ [("odd" : Str)]).map PyData.str) + 1 from rfl, Bool.true_and, decide_eq_true_eq]
            have := depth_names (recvAt es t.2.2 ++ [("odd" : Str)])
            omega
          refine ⟨.list ((recvAt es t.2.2 ++ [("odd" : Str)]).map PyData.str), .list ((recvAt es t.2.2 ++ [("odd" : Str)]).map PyData.str), .lst (ltI (t2 _ _ hot10)) dp_names, .lst (ltI (by rw [upd_same, List.map_append]; rfl)) dp_names, shp, shp, ?_⟩
          have eqq : PyData.eqv (.list ((recvAt es t.2.2 ++ [("odd" : Str)]).map PyData.str)) (.list ((recvAt es t.2.2 ++ [("odd" : Str)]).map PyData.str)) = true := by
            show PyData.eqvAll _ _ = true
            rw [eqv_strs]
            simp
          rw [eqq]
          refine ⟨false, rfl, iteF ⟨fun b o hb ho => t2 _ _ (h1 b o hb ho), t2 _ _ h2, t2 _ _ h3⟩⟩
        rintro H10 ⟨h1, h2, h3⟩
        refine ⟨h2, ?_⟩
        have s10 : Same H9 (upd H10 U (.dT (A0.map fun t => (keyOf t, V.ref (h t))))) := fun b o ho => by
          by_cases e : b = U
          · rw [e] at ho ⊢
            rw [upd_same]
            exact hU9.symm.trans ho
          · exact (upd_ne e).trans (h1 b o e ho)
        have hE10 : (upd H10 U (.dT (A0.map fun t => (keyOf t, V.ref (h t))))) E2 = some (.lst []) := (upd_ne (Ne.symm nUE)).trans h3
        generalize upd H10 U (.dT (A0.map fun t => (keyOf t, V.ref (h t)))) = H11 at s10 hE10 ⊢
        refine ⟨Nat.zero_le _, fun Z hZ => ⟨.list [], .list [], .lst (ltI (same_new hZ _ _ hE10)) .nil, .lst (ltI upd_same) .nil, rfl, rfl, false, rfl, iteF ?_⟩⟩
        have s11 : Same H9 (upd H11 Z (.lst [])) := s10.trans (same_new hZ)
        refine ⟨.ref TD, rfl, by exact .inr (.inr (.inl ⟨rfl, .inr ⟨_, s11 _ _ hT9⟩⟩)), TD, _, rfl, rfl, s11 _ _ hT9, ?_⟩
        exact ⟨same_put (s69.trans s11) (s7.free hTD0), _, _, _, _, _, _, _, _, _, rfl⟩
    · rintro σ H7 ⟨s7, y6, y7, y8, y9, y10, y11, y12, y13, y14, rfl⟩
      have s07 := s6.trans s7
      have hS7 := hS6.same s7
      clear hU6 hown6 hS6 s6 s7
      -- messages
      refine ⟨.ref D, rfl, D, _, (sentMsgs nodes es es.length).map msOf, rfl, .inl hS7.at', by rw [List.map_map, List.map_map]; rfl, fun S2 bs2 hS2 hbs2 => ?_⟩
      rw [hsort] at hbs2
      obtain ⟨k2, rfl, hk2⟩ := Paired.fn msOf hbs2 hAn
      have tS := same_new (o := .lst ((A0.map k2).map V.ref)) hS2
      have s08 := s07.trans tS
      have hS8 := hS7.same tS
      have hk8 : ∀ t ∈ A0, (upd H7 S2 (.lst ((A0.map k2).map V.ref))) (k2 t) = some (.tup [.str t.1, .int ((t.2.1 : Nat) : Int)]) := fun t ht => tS _ _ (hk2 t ht)
      have hM8 : (upd H7 S2 (.lst ((A0.map k2).map V.ref))) S2 = some (.lst ((A0.map k2).map V.ref)) := upd_same
      generalize upd H7 S2 (.lst ((A0.map k2).map V.ref)) = H8 at s08 hS8 hk8 hM8 ⊢
      clear tS hk2 hbs2 hS7 s07 hS2
      have hsd8 : SeedAt H8 sd := by
        obtain ⟨x, y, z, h1, h2⟩ := hS
        exact ⟨x, y, z, s08 _ _ h1, h2⟩
      obtain ⟨cnt, hc1, hc2⟩ : ∃ c : Nat, c ≤ A0.length ∧ (if (12 : Int) < (A0.length : Int) then (12 : Int) else (A0.length : Int)) = (c : Int) := by
        by_cases c : 12 < A0.length
        · exact ⟨12, by omega, by rw [if_pos (by omega)]; rfl⟩
        · exact ⟨A0.length, Nat.le_refl _, by rw [if_neg (by omega)]⟩
      refine ⟨.ref S2, rfl, S2, _, rfl, .inl (ltI hM8), _, _, rfl, (cnt : Nat), ?_, by omega, by omega, for_range (fun i σ H' => But [sd] H8 H' ∧ SeedAt H' sd ∧ ∃ y6 y7 y8 y10 y11 y12 y13 y14, σ = [some (.ref sd), some (.ref N), some (.ref R), some (.str (bothD nodes es).shown), some (.ref D), some (.ref U), y6, y7, y8, some (.ref S2), y10, y11, y12, y13, y14]) ?_ ?_ ?_⟩
      · rw [List.length_map, List.length_map, hc2]
      · exact ⟨But.refl _ _, hsd8, _, _, _, _, _, _, _, _, rfl⟩
      · rintro i σ H9 hi ⟨b9, hsd9, y6, y7, y8, y10, y11, y12, y13, y14, rfl⟩
        rw [Int.toNat_natCast] at hi
        have b0 : But [sd] H H9 := (But.same s08).trans b9
        have hM9 := b9 _ _ (seed_refs hsd8 hM8) hM8
        have hk9 : ∀ t ∈ A0, H9 (k2 t) = some (.tup [.str t.1, .int ((t.2.1 : Nat) : Int)]) := fun t ht => b9 _ _ (seed_tup hsd8 (hk8 t ht)) (hk8 t ht)
        -- message, node
        refine ⟨.ref S2, rfl, .ref sd, rfl, .ref S2, rfl, S2, _, rfl, .inl (ltI hM9), sd, _, rfl, hsd9, by rw [List.length_map, List.length_map]; omega, by rw [List.length_map, List.length_map]; omega, fun H10 r10 hs10 hb10 h100 h101 => ?_⟩
        rw [List.length_map, List.length_map] at h101
        have b10 : But [sd] H9 H10 := fun a x ha e => (hb10 a (by simpa using ha)).trans e
        have hM10 := b10 _ _ (seed_refs hsd9 hM9) hM9
        obtain ⟨t, ht⟩ : ∃ t, A0[r10.toNat]? = some t := ⟨_, List.getElem?_eq_getElem (by omega)⟩
        have htA := List.mem_of_getElem? ht
        have hk10 := b10 _ _ (seed_tup hsd9 (hk9 t htA)) (hk9 t htA)
        have hN10 := (mvG (b0.trans b10)).n
        refine ⟨S2, _, r10, .ref (k2 t), rfl, rfl, ltI hM10, by rw [show r10 = ((r10.toNat : Nat) : Int) by omega]; exact atI_nat (by rw [List.map_map, List.getElem?_map, ht]; rfl), ?_⟩
        refine ⟨.ref N, rfl, .ref sd, rfl, .ref N, rfl, N, _, rfl, .inl (ltI hN10), sd, _, rfl, hs10, by rw [List.length_map]; omega, by rw [List.length_map]; omega, fun H11 r11 hs11 hb11 h110 h111 => ?_⟩
        rw [List.length_map] at h111
        have b11 : But [sd] H10 H11 := fun a x ha e => (hb11 a (by simpa using ha)).trans e
        have hk11 := b11 _ _ (seed_tup hs10 hk10) hk10
        have b011 := (b0.trans b10).trans b11
        have hN11 := (mvG b011).n
        obtain ⟨x, hx⟩ : ∃ x, nodes[r11.toNat]? = some x := ⟨_, List.getElem?_eq_getElem (by omega)⟩
        have hxn := List.mem_of_getElem? hx
        refine ⟨N, _, r11, .str x, rfl, rfl, ltI hN11, by rw [show r11 = ((r11.toNat : Nat) : Int) by omega]; exact atI_nat (by rw [List.getElem?_map, hx]; rfl), ?_⟩
        have hS11 : SentAt H11 D as (sentMsgs nodes es es.length) g := by
          have b : But [sd] H8 H11 := (b9.trans b10).trans b11
          have nD : D ∉ [sd] := by
            obtain ⟨x, y, z, h1, _⟩ := hsd8
            simpa using ne_of hS8.at' h1 (by intro z; cases z)
          exact ⟨b _ _ nD hS8.at', fun t ht => (hS8.own t ht).elim fun l ⟨a, h1, h2, h3⟩ => ⟨l, a, h1, b _ _ (seed_tup hsd8 h2) h2, b _ _ (seed_tup hsd8 h3) h3⟩⟩
        have bb : But [sd] H8 H11 := (b9.trans b10).trans b11
        clear b9 hM9 hk9 hs10 hb10 b10 hM10 hk10 hN10 hb11 b11 hsd9 b0
        refine ⟨by show 2 ≤ sizeLine; decide, fun Tp2 hT2 => ⟨Tp2, _, rfl, tpI upd_same, rfl, _, _, rfl, _, _, rfl, rfl, ?_⟩⟩
        have tT := same_new (o := .tup [.ref (k2 t), .str x]) hT2
        generalize upd H11 Tp2 (.tup [.ref (k2 t), .str x]) = H12 at tT ⊢
        -- opens
        have hG12 := mvG (b011.trans (But.same tT))
        have hk12 := tT _ _ hk11
        refine ⟨.ref R, rfl, R, _, rfl, ltI hG12.r.at', fun Dl hDl => lc_enum (xs := as.map V.ref) (fun i H' => Same H12 H' ∧ H' Dl = some (.lst (ixs (opIx es x t.1 ((t.2.1 : Nat) : Int) i)))) ⟨same_new hDl, upd_same⟩ (fun i H' _ hI => ltI (hI.1 _ _ hG12.r.at')) ?_ ?_⟩
        · rintro k v H13 Tq hv ⟨sm, hl⟩ hTq
          rw [List.getElem?_map] at hv
          obtain ⟨a, ha, rfl⟩ := Option.map_eq_some_iff.mp hv
          obtain ⟨e, he⟩ : ∃ e, es[k]? = some e := ⟨_, List.getElem?_eq_getElem (by rw [← hR.len]; exact (List.getElem?_eq_some_iff.mp ha).1)⟩
          have hkl : k < es.length := (List.getElem?_eq_some_iff.mp he).1
          refine ⟨Tq, _, rfl, tpI upd_same, rfl, _, _, rfl, _, _, rfl, rfl, ?_⟩
          have tQ := same_new (o := .tup [.int (k : Nat), .ref a]) hTq
          have sm2 := sm.trans tQ
          have hl2 := tQ _ _ hl
          generalize upd H13 Tq (.tup [.int (k : Nat), .ref a]) = H14 at sm2 hl2 ⊢
          refine ⟨by first | rfl | simp [wipe, List.set_set], .ref a, rfl, .str x, rfl, .ref (k2 t), rfl, by show 3 ≤ sizeLine; decide, fun Te hTe => ?_⟩
          have tE := same_new (o := .tup [.str "open", .str x, .ref (k2 t)]) hTe
          refine ⟨evD e, evD (.opn x t.1 ((t.2.1 : Nat) : Int)), dp_ev ((hG12.r.ev k a e ha he).same (sm2.trans tE)), .tup (tpI upd_same) (.cons (.str _) (.cons (.str _) (.cons (.tup (tpI (tE _ _ (sm2 _ _ hk12))) (.cons (.str _) (.cons (.int _) .nil))) .nil))), shaped_ev hn ok he, shaped_opn (hn.nm _ hxn) (hn.nm _ (all_mem (hAll t htA)).1), ?_⟩
          rw [show PyData.eqv (evD e) (evD (.opn x t.1 ((t.2.1 : Nat) : Int))) = e.isOpn x t.1 ((t.2.1 : Nat) : Int) from eqv_ev]
          have hle := opIx_len (es := es) (x := x) (s := t.1) (n := ((t.2.1 : Nat) : Int)) k
          refine ⟨_, rfl, ite2 (fun c => ?_) (fun c => ?_)⟩
          · refine ⟨.int (k : Nat), rfl, _, tE _ _ hl2, small1000 (by rw [List.length_map]; omega), ?_, ?_⟩
            · exact same_put (sm2.trans tE) hDl
            · rw [upd_same, opIx_succ he, if_pos c]
              simp [ixs]
          · refine ⟨sm2.trans tE, ?_⟩
            rw [opIx_succ he, if_neg c, List.append_nil]
            exact tE _ _ hl2
        rintro H13 ⟨sm, hl⟩
        rw [List.length_map, hR.len] at hl
        -- told
        have hAt := sent_at (hAll t htA)
        have hG13 := mvG ((b011.trans (But.same tT)).trans (But.same sm))
        have hk13 := sm _ _ hk12
        have hjl : t.2.2 ≤ 1000 := by have := sent_place (hAin t htA); omega
        have hil : ∀ i ∈ opIx es x t.1 ((t.2.1 : Nat) : Int) es.length, i ≤ 1000 := fun i hi => by have := (opIx_mem.mp hi).1; omega
        refine ⟨.ref N, rfl, .ref R, rfl, .ref (k2 t), rfl, N, R, k2 t, nodes, as, es, t.1, ((t.2.1 : Nat) : Int), t.2.2, rfl, hG13, ok, hk13, hAt, fun H14 s14 => ?_⟩
        have hG14 := mvG ((b011.trans (But.same tT)).trans (But.same (sm.trans s14)))
        refine ⟨.ref N, rfl, .ref R, rfl, .ref (k2 t), rfl, .str x, rfl, N, R, k2 t, nodes, as, es, t.1, x, ((t.2.1 : Nat) : Int), t.2.2, rfl, hG14, ok, s14 _ _ hk13, hAt, hxn, fun H15 s15 => ?_⟩
        rw [open_told' ok hAt]
        refine ⟨by show 2 ≤ sizeLine; decide, fun TL hTL => ?_⟩
        have sTL := same_new (o := .lst [.int ((t.2.2 : Nat) : Int), vOf (opIx es x t.1 ((t.2.1 : Nat) : Int) es.length)]) hTL
        have s16 := ((tT.trans sm).trans (s14.trans s15)).trans sTL
        have hl16 := (s14.trans s15).trans sTL _ _ hl
        have hk16 := s16 _ _ hk11
        have hTL16 : (upd H15 TL (.lst [.int ((t.2.2 : Nat) : Int), vOf (opIx es x t.1 ((t.2.1 : Nat) : Int) es.length)])) TL = some (.lst [.int ((t.2.2 : Nat) : Int), vOf (opIx es x t.1 ((t.2.1 : Nat) : Int) es.length)]) := upd_same
        generalize upd H15 TL (.lst [.int ((t.2.2 : Nat) : Int), vOf (opIx es x t.1 ((t.2.1 : Nat) : Int) es.length)]) = H16 at s16 hl16 hk16 hTL16 ⊢
        have hoL := opIx_len (es := es) (x := x) (s := t.1) (n := ((t.2.1 : Nat) : Int)) es.length
        generalize opIx es x t.1 ((t.2.1 : Nat) : Int) es.length = ol at hl16 hTL16 hil hoL ⊢
        have hS16 := hS11.same s16
        obtain ⟨l, a, _, _, hg⟩ := hS16.own t (hAin t htA)
        have hval : valV ((sentMsgs nodes es es.length).map fun t => (keyOf t, V.ref (g t))) (keyOf t) = some (.ref (g t)) := valT_in (h := fun t => V.ref (g t)) (hAin t htA) fun u hu e => sent_key ok (hAin t htA) hu e
        refine ⟨.ref TL, rfl, TL, toldD t.2.2 ol, rfl, .lst (ltI hTL16) (.cons (.int _) (.cons (dpx_of ol) .nil)), shown_told hjl hil, ?_⟩
        refine ⟨.ref D, rfl, .ref (k2 t), rfl, D, .ref (g t), rfl, by rw [← hval]; exact DGet.t (k := keyOf t) hS16.at' hk16, g t, _, 0, .int ((t.2.2 : Nat) : Int), rfl, rfl, tpI hg, atI_nat (j := 0) rfl, ?_⟩
        refine ⟨.ref Dl, rfl, by show 1 ≤ sizeLine; decide, fun n1 hn1 => ⟨Dl, n1, _, _, rfl, rfl, same_new hn1 _ _ hl16, upd_same, ?_, fun n2 hn2 => ?_⟩⟩
        · rw [List.length_map]
          exact Nat.le_trans (by show ol.length + 1 ≤ 1000; omega) (by decide)
        refine ⟨n2, _, 0, vOf ol, rfl, rfl, ltI upd_same, atI_nat (j := 0) (first_of ol), by show 2 ≤ sizeLine; decide, fun TR hTR => ?_⟩
        refine ⟨TR, toldD t.2.2 ol, rfl, .lst (ltI upd_same) (.cons (.int _) (.cons (dpx_of ol) .nil)), shown_told hjl hil, rfl, false, ?_, iteF ?_⟩
        · simp
        have sF := (s16.trans (same_new hn1)).trans ((same_new hn2).trans (same_new (o := .lst [.int ((t.2.2 : Nat) : Int), vOf ol]) hTR))
        refine ⟨bb.trans (But.same sF), ?_, _, _, _, _, _, _, _, _, rfl⟩
        obtain ⟨x, y, z, h1, h2⟩ := hs11
        exact ⟨x, y, z, sF _ _ h1, h2⟩
      · rintro σ H9 ⟨b9, hsd9, y6, y7, y8, y10, y11, y12, y13, y14, rfl⟩
        have b0 : But [sd] H H9 := (But.same s08).trans b9
        refine ⟨.ref N, rfl, .ref R, rfl, by show 2 ≤ sizeLine; decide, fun L2' hL2 => ⟨L2', bothD nodes es, rfl, .lst (ltI upd_same) (dpB (b0.trans (But.same (same_new hL2)))), shown_both hn ok (by omega), ?_⟩⟩
        refine ⟨_, rfl, rfl, ?_⟩
        rw [show decide ((V.str (bothD nodes es).shown) = (V.str (bothD nodes es).shown)) = true from decide_eq_true rfl]
        refine q _ (b0.trans (But.same (same_new hL2))) ?_
        obtain ⟨x, y, z, h1, h2⟩ := hsd9
        exact ⟨x, y, z, same_new hL2 _ _ h1, h2⟩
end
end KA

set_option Elab.async false
set_option linter.all false
set_option maxRecDepth 100000
set_option maxHeartbeats 4000000
namespace KA
open PySem PySem.Spec PyProof.Rows L2 L2.Dx Kx
theorem cut_init (nodes : List Str) (h : 1 ≤ nodes.length) : cutV (nodes.map V.str) none (some (-1)) = nodes.dropLast.map V.str := by
  unfold cutV
  rw [HT.sIx_none, show HT.sIx (nodes.map V.str).length (nodes.map V.str).length (some (-1)) = (nodes.map V.str).length - 1 by
    show (if (-1 : Int) < 0 then ((-1 : Int) + ((nodes.map V.str).length : Int)).toNat else min (-1 : Int).toNat (nodes.map V.str).length) = _
    rw [if_pos (by decide)]
    omega]
  rw [List.drop_zero, Nat.sub_zero, ← List.dropLast_eq_take, List.map_dropLast]
theorem same_but {H0 H H' : Hp} {sd : Addr} (s : Same H0 H) (h : H0 sd = none) (b : But [sd] H H') : Same H0 H' := fun a o e => b a o (by simpa using ne_of_none e h) (s a o e)
/-- the parts of an event stand apart from a list at R -/
theorem EvAt.put {H : Hp} {R a : Addr} {as : List Addr} {e : Ev} {o : HO} (h : EvAt H a e) (hR : H R = some (.lst (as.map V.ref))) (hne : ∀ x rs, e = .snd x rs → rs ≠ []) : EvAt (upd H R o) a e := by
  cases e with
  | snd x rs =>
    obtain ⟨l, h1, h2⟩ := h
    refine ⟨l, (upd_ne (ne_of h1 hR (by intro z; cases z))).trans h1, (upd_ne (ne_of h2 hR ?_)).trans h2⟩
    intro z
    have := hne x rs rfl
    cases rs with
    | nil => exact this rfl
    | cons r t =>
      cases as with
      | nil => cases z
      | cons _ _ =>
        rw [List.map_cons, List.map_cons] at z
        cases z
  | opn x s n =>
    obtain ⟨m, h1, h2⟩ := h
    exact ⟨m, (upd_ne (ne_of h1 hR (by intro z; cases z))).trans h1, (upd_ne (ne_of h2 hR (by intro z; cases z))).trans h2⟩
theorem RunAt.push {H : Hp} {R t : Addr} {nodes : List Str} {as : List Addr} {es : List Ev} {e : Ev} (hn : NodesOk nodes) (ok : RunOk nodes (es ++ [e])) (h : RunAt H R as es) (ht : EvAt H t e) : RunAt (upd H R (.lst (as.map V.ref ++ [.ref t]))) R (as ++ [t]) (es ++ [e]) := by
  have ne : ∀ {i : Nat} {e' : Ev}, (es ++ [e])[i]? = some e' → ∀ x rs, e' = .snd x rs → rs ≠ [] := fun hi x rs e1 => by
    subst e1
    exact (ev_facts hn ok hi).2.2.2
  refine ⟨by rw [upd_same, List.map_append]; rfl, by simp [h.len], fun i b e' h1 h2 => ?_⟩
  by_cases c : i < es.length
  · have h3 := h2
    rw [List.getElem?_append_left (by rw [h.len]; exact c)] at h1
    rw [List.getElem?_append_left c] at h2
    exact (h.ev i b e' h1 h2).put h.at' (ne h3)
  · have h3 := h2
    rw [List.getElem?_append_right (by rw [h.len]; omega), h.len] at h1
    rw [List.getElem?_append_right (by omega)] at h2
    have : i - es.length = 0 := by
      have := (List.getElem?_eq_some_iff.mp h2).1
      simp at this
      omega
    rw [this] at h1 h2
    cases h1
    cases h2
    exact ht.put h.at' (ne h3)
theorem dropLast_ok {nodes : List Str} {last : Str} (hn : NodesOk nodes) (hl : nodes[nodes.length - 1]? = some last) : last ∈ nodes ∧ recvB nodes last nodes.dropLast = true ∧ nodes.dropLast.Nodup := by
  have n2 := hn.lo
  have e : nodes.dropLast ++ [last] = nodes := by
    have h0 : nodes ≠ [] := by intro z; rw [z] at n2; simp at n2
    have : nodes.getLast h0 = last := by
      have h1 := (List.getLast?_eq_getElem? (l := nodes))
      rw [hl, List.getLast?_eq_some_getLast h0] at h1
      exact Option.some.inj h1
    rw [← this]
    exact List.dropLast_concat_getLast h0
  have nd := hn.nodup
  refine ⟨List.mem_of_getElem? hl, recvB_sub hn (List.dropLast_sublist _) ?_ ?_, nd.sublist (List.dropLast_sublist _)⟩
  · intro z
    have := congrArg List.length z
    rw [List.length_dropLast] at this
    simp at this
    omega
  · intro r hr z
    rw [← e, List.nodup_append] at nd
    exact nd.2.2 r hr last (by simp) z
/-- one send to all and its first open -/
theorem grow {nodes : List Str} {es : List Ev} {last first : Str} (hn : NodesOk nodes) (ok : RunOk nodes es) (hl : nodes[nodes.length - 1]? = some last) (hf : nodes[0]? = some first) :
    RunOk nodes (es ++ [.snd last nodes.dropLast]) ∧ sentAt (rsOf nodes (es ++ [.snd last nodes.dropLast])) nodes last ((((rsOf nodes (es ++ [.snd last nodes.dropLast])).sends last).length : Nat) : Int) = some es.length ∧
    RunOk nodes ((es ++ [.snd last nodes.dropLast]) ++ [.opn first last ((((rsOf nodes (es ++ [.snd last nodes.dropLast])).sends last).length : Nat) : Int)]) := by
  obtain ⟨h1, h2, h3⟩ := dropLast_ok hn hl
  have n2 := hn.lo
  have M0 : MInv nodes es [] := ⟨ok, List.nodup_nil, fun p hp => by cases hp⟩
  have M := M0.send h1 h2 h3
  have hlen : ((rsOf nodes (es ++ [.snd last nodes.dropLast])).sends last).length = ((rsOf nodes es).sends last).length + 1 := by
    rw [rsOf_snoc]
    show (if last = last then (rsOf nodes es).sends last ++ [es.length] else _).length = _
    rw [if_pos rfl]
    simp
  have hfm : first ∈ nodes.dropLast := by
    have : nodes.dropLast[0]? = some first := by
      rw [List.getElem?_dropLast, if_pos (by omega)]
      exact hf
    exact List.mem_of_getElem? this
  have hp : (⟨first, last, ((((rsOf nodes es).sends last).length + 1 : Nat) : Int), es.length⟩ : Pend) ∈ ([] ++ newPend nodes es last nodes.dropLast) := List.mem_map.mpr ⟨first, hfm, rfl⟩
  obtain ⟨g1, g2, g3⟩ := M.good _ hp
  rw [hlen]
  exact ⟨M.ok, g1, runOk_snoc M.ok ⟨es.length, g1, g2, g3⟩⟩
theorem opIx_last {nodes : List Str} {es : List Ev} {x s : Str} {n : Int} (ok : RunOk nodes es) (ok2 : RunOk nodes (es ++ [.opn x s n])) : vOf (opIx (es ++ [.opn x s n]) x s n (es ++ [Ev.opn x s n]).length) = .int ((es.length : Nat) : Int) := by
  have hin : es.length ∈ opIx (es ++ [.opn x s n]) x s n (es ++ [Ev.opn x s n]).length := opIx_mem.mpr ⟨by simp, by simp⟩
  cases h : opIx (es ++ [.opn x s n]) x s n (es ++ [Ev.opn x s n]).length with
  | nil => rw [h] at hin; cases hin
  | cons i t =>
    have hi : i ∈ opIx (es ++ [.opn x s n]) x s n (es ++ [Ev.opn x s n]).length := by rw [h]; exact List.mem_cons_self
    obtain ⟨h1, h2⟩ := opIx_mem.mp hi
    have : i = es.length := by
      rcases Nat.lt_or_ge i es.length with c | c
      · rw [List.getElem?_append_left c] at h2
        exact absurd ok2 (not_again ok h2)
      · simp at h1
        omega
    rw [this]
    rfl
/-- the kind of an event and its node, as data -/
def Ev.kind : Ev → Str
  | .snd _ _ => "send"
  | .opn _ _ _ => "open"
def Ev.node : Ev → Str
  | .snd x _ => x
  | .opn x _ _ => x
theorem ev_head {H : Hp} {a : Addr} {e : Ev} (h : EvAt H a e) : ∃ l, H a = some (.tup [.str e.kind, .str e.node, .ref l]) := by
  cases e with
  | snd x rs => obtain ⟨l, h1, _⟩ := h; exact ⟨l, h1⟩
  | opn x s n => obtain ⟨l, h1, _⟩ := h; exact ⟨l, h1⟩
def Ev.sends (x : Str) : Ev → Bool
  | .snd y _ => decide (y = x)
  | .opn _ _ _ => false
theorem eqv_head {x : Str} {e : Ev} : PyData.eqv (.tuple [.str e.kind, .str e.node]) (.tuple [.str "send", .str x]) = e.sends x := by
  have be : ∀ (a b : Str), (a == b) = decide (a = b) := fun a b => by by_cases h : a = b <;> simp [h]
  cases e with
  | snd y rs =>
    show ((("send" : Str) == "send") && ((y == x) && true)) = _
    rw [show (("send" : Str) == ("send" : Str)) = true by decide +kernel, be]
    simp [Ev.sends]
  | opn y s n =>
    show ((("open" : Str) == "send") && ((y == x) && true)) = false
    rw [show (("open" : Str) == ("send" : Str)) = false by decide +kernel]
    rfl
theorem sends_cnt {nodes : List Str} {es : List Ev} {x : Str} {k : Nat} {e : Ev} (h : es[k]? = some e) : ((Rs.upto nodes es (k + 1)).sends x).length = ((Rs.upto nodes es k).sends x).length + (if e.sends x = true then 1 else 0) := by
  rw [upto_succ h]
  cases e with
  | snd y rs =>
    show (if x = y then (Rs.upto nodes es k).sends y ++ [k] else (Rs.upto nodes es k).sends x).length = _ + (if decide (y = x) = true then 1 else 0)
    by_cases c : x = y
    · subst c
      rw [if_pos rfl, if_pos (by simp)]
      simp
    · rw [if_neg c, if_neg (by simpa using fun z : y = x => c z.symm)]
      rfl
  | opn y s n => rfl
theorem shaped_head {x : Str} {k : Str} (hk : NameOk k) (hx : NameOk x) : SeqAt.shaped (.tuple [.str k, .str x]) = true := by
  unfold SeqAt.shaped
  rw [show (PyData.tuple [.str k, .str x]).canLay0 = (PyData.canLay0 (.str k) && (PyData.canLay0 (.str x) && true)) from rfl, name_strOk hk, name_strOk hx]
  rfl
theorem kind_ok (e : Ev) : NameOk e.kind := by
  cases e with
  | snd _ _ => exact NameOk.send
  | opn _ _ _ => exact NameOk.open'
end KA

set_option Elab.async false
set_option linter.all false
set_option maxRecDepth 100000
set_option maxHeartbeats 16000000
namespace KA
open PySem PySem.Spec PyProof.Rows L2 L2.Dx Kx
section
variable {P : Program} {w : World} {K : PySem.W.Frag} {mg : Str → Option Value} {base : Heap}
def sp_law (K : PySem.W.Frag) : Sp := fun vs H Q _ => ∃ (S : Addr) (ns : List Int), vs = [.ref S] ∧ SqL K H S (ns.map V.int) ∧ ns.length ≤ 63 ∧ ∀ H', Q (.bl true) H'
theorem ok_law (T : Txt K mg) : FnG P w K mg base CX0 6 T.f_law T.fd_law ["script"] (sp_law K) := by
  refine L2.Dx.Fun.okG T.F_law sc_law (fun vs H Q E h => ?_) (fun cdv A outer s H vs Q E hr hgd h => ?_)
  · obtain ⟨S, ns, rfl, _⟩ := h
    rfl
  · obtain ⟨S, ns, rfl, hS, hns, q⟩ := h
    refine ⟨_, (pss_cons (ps_for PassesOwn.never rfl (pi_range1 (by rfl) T.m_range (pa_cons (pe_callB (call_max2 rfl) (by rfl) T.m_max (by decide +kernel) (pa_cons pe_int (pa_cons (pe_callB (call_min2 rfl) (by rfl) T.m_min (by decide +kernel) (pa_cons pe_int (pa_cons (pe_op op_add (pe_callB call_len_seq (by rfl) T.m_len PySem.boot_len (pa_cons (pv 0) pa_nil)) pe_int) pa_nil))) pa_nil))) pa_nil)) (pg_name (i := 1) sc_law.nd rfl (by first | exact .inl rfl | exact .inr rfl))
      (pss_cons (ps_set (i := 2) sc_law.nd rfl (by first | exact .inl rfl | exact .inr rfl) (pe_call (ok__law_seed T) (hr.mono (by decide)) rfl T.M__law_seed T.F__law_seed.kp (b__law_seed T) .nil pass0 (pa_cons (pv 0) (pa_cons (pv 1) pa_nil))))
      (pss_cons (ps_set (i := 3) sc_law.nd rfl (by first | exact .inl rfl | exact .inr rfl) (pe_call (ok__law_nodes T) (hr.mono (by decide)) rfl T.M__law_nodes T.F__law_nodes.kp (b__law_nodes T) .nil pass0 (pa_cons (pv 2) (pa_cons (pe_ix ix_list (pe_lst (pa_cons pe_int (pa_cons pe_int (pa_cons pe_int pa_nil)))) (pe_call (ok__law_next T) (hr.mono (by decide)) rfl T.M__law_next T.F__law_next.kp (b__law_next T) .nil pass0 (pa_cons (pv 2) (pa_cons pe_int pa_nil))) (fun _ _ => rfl)) pa_nil))))
      (pss_cons (ps_set (i := 4) sc_law.nd rfl (by first | exact .inl rfl | exact .inr rfl) (pe_call (ok__law_run T) (hr.mono (by decide)) rfl T.M__law_run T.F__law_run.kp (b__law_run T) .nil pass0 (pa_cons (pv 2) (pa_cons (pv 3) (pa_cons (pe_ix ix_list (pe_lst (pa_cons pe_int (pa_cons pe_int (pa_cons (pe_ix ix_list (pe_lst (pa_cons pe_int (pa_cons pe_int pa_nil))) (pe_callTy call_int1 (by rfl) T.m_int (by decide +kernel) (pa_cons (pe_cmpR op_eq (pv 1) pe_int (nomark _)) pa_nil)) (fun _ _ => rfl)) pa_nil)))) (pe_call (ok__law_next T) (hr.mono (by decide)) rfl T.M__law_next T.F__law_next.kp (b__law_next T) .nil pass0 (pa_cons (pv 2) (pa_cons pe_int pa_nil))) (fun _ _ => rfl)) pa_nil)))))
      (pss_cons (ps_if (pt_not (pt_val (pe_callG (ok__law_right T) hgd (hr.mono (by decide)) rfl T.M__law_right T.F__law_right.kp (b__law_right T) .nil pass0 (pa_cons (pv 2) (pa_cons (pv 3) (pa_cons (pv 4) pa_nil))))))
        (pss_one (ps_ret pe_bl))
        pss_nil)
      (pss_cons (ps_expr (pe_bm PySem.F.plainAttrs_list PySem.F.slot_list_append PySem.F.type_list_append mt_append (pv 4) (pa_cons (pe_tup (pa_cons pe_str (pa_cons (pe_ix ix_list (pv 3) (pe_un un_neg pe_int) (fun _ _ => rfl)) (pa_cons (pe_slice sl_list (pv 3) po_none (po_some (pe_un un_neg pe_int))) pa_nil)))) pa_nil)))
      (pss_cons (ps_if (pt_not (pt_val (pe_callG (ok__law_right T) hgd (hr.mono (by decide)) rfl T.M__law_right T.F__law_right.kp (b__law_right T) .nil pass0 (pa_cons (pv 2) (pa_cons (pv 3) (pa_cons (pv 4) pa_nil))))))
        (pss_one (ps_ret pe_bl))
        pss_nil)
      (pss_cons (ps_set (i := 5) sc_law.nd rfl (by first | exact .inl rfl | exact .inr rfl) (pe_tup (pa_cons (pe_ix ix_list (pv 3) (pe_un un_neg pe_int) (fun _ _ => rfl)) (pa_cons (pe_callB call_len_seq (by rfl) T.m_len PySem.boot_len (pa_cons (pe_lc (own := [("event", 6)]) rfl sc_law.nd (pi_list (pv 4)) (blkOk_by (N := ["script", "k", "seed", "nodes", "run", "message", "event"]) (sc := defScope s_law) (by decide +kernel)) (fun _ _ _ _ _ => (pg_name (i := 6) sc_law.nd rfl (by first | exact .inl rfl | exact .inr rfl))) (fun _ _ _ _ _ => (pts_one (pt_cmpR (op_eqDK (K := K) rfl hr.units) (pe_slice (sl_tupK (K := K) rfl) (pv 6) po_none (po_some pe_int)) (pe_tup (pa_cons pe_str (pa_cons (pe_ix (ix_listK (K := K) rfl) (pv 3) (pe_un un_neg pe_int) (fun _ _ => rfl)) pa_nil))) (nomark _)))) (fun _ _ _ _ _ => (pv 6))) pa_nil)) pa_nil))))
      (pss_cons (ps_expr (pe_bm PySem.F.plainAttrs_list PySem.F.slot_list_append PySem.F.type_list_append mt_append (pv 4) (pa_cons (pe_tup (pa_cons pe_str (pa_cons (pe_ix ix_list (pv 3) pe_int (fun _ _ => rfl)) (pa_cons (pv 5) pa_nil)))) pa_nil)))
      (pss_one (ps_if (PW.pt (pw_or (pt_cmpR op_ne (pe_call (ok_open_index T) (hr.mono (by decide)) rfl T.M_open_index T.F_open_index.kp (b_open_index T) .nil pass0 (pa_cons (pv 3) (pa_cons (pv 4) (pa_cons (pv 5) (pa_cons (pe_ix ix_list (pv 3) pe_int (fun _ _ => rfl)) pa_nil))))) (pe_op op_sub (pe_callB call_len_seq (by rfl) T.m_len PySem.boot_len (pa_cons (pv 4) pa_nil)) pe_int) (nomark _)) (pw_or1 (pt_not (pt_val (pe_callG (ok__law_right T) hgd (hr.mono (by decide)) rfl T.M__law_right T.F__law_right.kp (b__law_right T) .nil pass0 (pa_cons (pv 2) (pa_cons (pv 3) (pa_cons (pv 4) pa_nil)))))))))
        (pss_one (ps_ret pe_bl))
        pss_nil)))))))))))
    (pss_one (ps_ret pe_bl))), ?_⟩
    obtain ⟨cnt, hc1, hc2⟩ : ∃ c : Nat, c ≤ 8 ∧ (if (if (ns.length : Int) + 1 < 8 then (ns.length : Int) + 1 else 8) > 1 then (if (ns.length : Int) + 1 < 8 then (ns.length : Int) + 1 else 8) else 1) = (c : Int) := by
      by_cases c : ns.length + 1 < 8
      · rw [if_pos (by omega : (ns.length : Int) + 1 < 8)]
        by_cases d : 1 < ns.length + 1
        · exact ⟨ns.length + 1, by omega, by rw [if_pos (by omega)]; omega⟩
        · exact ⟨1, by omega, by rw [if_neg (by omega)]; rfl⟩
      · rw [if_neg (by omega : ¬ (ns.length : Int) + 1 < 8)]
        exact ⟨8, by omega, by rw [if_pos (by decide)]; rfl⟩
    refine ⟨.ref S, rfl, S, _, rfl, .inl hS, _, 1, rfl, rfl, 8, _, rfl, 1, _, rfl, (cnt : Nat), ?_, by omega, by omega, for_range (fun i σ H' => SqL K H' S (ns.map V.int) ∧ ∃ y1 y2 y3 y4 y5 y6, σ = [some (.ref S), y1, y2, y3, y4, y5, y6]) ?_ ?_ ?_⟩
    · rw [List.length_map, hc2]
    · exact ⟨hS, none, none, none, none, none, none, rfl⟩
    · rintro i σ H0 hi ⟨hS0, y1, y2, y3, y4, y5, y6, rfl⟩
      rw [Int.toNat_natCast] at hi
      -- seed
      refine ⟨.ref S, rfl, _, rfl, S, ns, i, by rw [Int.zero_add]; rfl, hS0, by omega, fun H1 sd s1 nsd hsd1 => ?_⟩
      -- nodes
      refine ⟨.ref sd, rfl, by show 3 ≤ sizeLine; decide, fun La hLa => ?_⟩
      have tA := same_new (o := .lst [.int 3, .int 5, .int 12]) hLa
      have sA := s1.trans tA
      have hA2 : (upd H1 La (.lst [.int 3, .int 5, .int 12])) La = some (.lst [.int 3, .int 5, .int 12]) := upd_same
      have hsd2 : SeedAt (upd H1 La (.lst [.int 3, .int 5, .int 12])) sd := by
        obtain ⟨x, y, z, h1, h2⟩ := hsd1
        exact ⟨x, y, z, tA _ _ h1, h2⟩
      have nAs : La ≠ sd := fun z => by
        obtain ⟨x, y, z', h1, h2⟩ := hsd1
        rw [z, h1] at hLa; cases hLa
      generalize upd H1 La (.lst [.int 3, .int 5, .int 12]) = H2 at sA hA2 hsd2 ⊢
      refine ⟨.ref sd, rfl, sd, 3, rfl, hsd2, by decide, by decide, fun H3 r3 hs3 hb3 h30 h31 => ?_⟩
      have s3 : Same H0 H3 := same_but sA nsd fun a x ha e => (hb3 a (by simpa using ha)).trans e
      have hA3 := (hb3 La nAs).trans hA2
      obtain ⟨m3, hm1, hm2, hat3⟩ : ∃ m : Nat, 2 ≤ m ∧ m ≤ 12 ∧ atI [V.int 3, .int 5, .int 12] r3 = some (.int (m : Nat)) := by
        have : r3 = 0 ∨ r3 = 1 ∨ r3 = 2 := by omega
        rcases this with e | e | e
        · exact ⟨3, by decide, by decide, by rw [e]; rfl⟩
        · exact ⟨5, by decide, by decide, by rw [e]; rfl⟩
        · exact ⟨12, by decide, by decide, by rw [e]; rfl⟩
      refine ⟨La, _, r3, .int (m3 : Nat), rfl, rfl, ltI hA3, hat3, sd, m3, rfl, hs3, hm1, hm2, fun H4 N nodes b4 hs4 hN0 hN4 hn hpool hnl hNsd => ?_⟩
      have s4 : Same H0 H4 := same_but s3 nsd b4
      have n2 := hn.lo
      have n12 := hn.hi
      clear hA3 hat3 b4 hN0 s3 hb3 hs3 hsd2 hA2 sA tA hLa nAs
      -- run
      refine ⟨.ref sd, rfl, .ref N, rfl, by show 2 ≤ sizeLine; decide, fun Lb hLb => ?_⟩
      have sB := s4.trans (same_new (o := .lst [.int 40, .int 148]) hLb)
      have hN5 := same_new (o := .lst [.int 40, .int 148]) hLb _ _ hN4
      have hB5 : (upd H4 Lb (.lst [.int 40, .int 148])) Lb = some (.lst [.int 40, .int 148]) := upd_same
      have hs5 : SeedAt (upd H4 Lb (.lst [.int 40, .int 148])) sd := by
        obtain ⟨x, y, z, h1, h2⟩ := hs4
        exact ⟨x, y, z, same_new hLb _ _ h1, h2⟩
      generalize upd H4 Lb (.lst [.int 40, .int 148]) = H5 at sB hN5 hB5 hs5 ⊢
      obtain ⟨q5, hq5, hat5⟩ : ∃ m : Nat, m ≤ 148 ∧ atI [V.int 40, .int 148] (if decide (V.int (0 + (i : Int)) = V.int 0) = true then 1 else 0) = some (.int (m : Nat)) := by
        by_cases c : decide (V.int (0 + (i : Int)) = V.int 0) = true
        · exact ⟨148, by decide, by rw [if_pos c]; rfl⟩
        · exact ⟨40, by decide, by rw [if_neg c]; rfl⟩
      refine ⟨_, rfl, rfl, .inr ⟨_, rfl, Lb, _, _, .int (q5 : Nat), rfl, rfl, ltI hB5, hat5, by show 3 ≤ sizeLine; decide, fun Lc hLc => ?_⟩⟩
      have sC := sB.trans (same_new (o := .lst [.int 10, .int 40, .int (q5 : Nat)]) hLc)
      have hN6 := same_new (o := .lst [.int 10, .int 40, .int (q5 : Nat)]) hLc _ _ hN5
      have hC6 : (upd H5 Lc (.lst [.int 10, .int 40, .int (q5 : Nat)])) Lc = some (.lst [.int 10, .int 40, .int (q5 : Nat)]) := upd_same
      have nCs : Lc ≠ sd := fun z => by
        obtain ⟨x, y, z', h1, h2⟩ := hs5
        rw [z, h1] at hLc; cases hLc
      have hs6 : SeedAt (upd H5 Lc (.lst [.int 10, .int 40, .int (q5 : Nat)])) sd := by
        obtain ⟨x, y, z, h1, h2⟩ := hs5
        exact ⟨x, y, z, same_new hLc _ _ h1, h2⟩
      generalize upd H5 Lc (.lst [.int 10, .int 40, .int (q5 : Nat)]) = H6 at sC hN6 hC6 hs6 ⊢
      refine ⟨.ref sd, rfl, sd, 3, rfl, hs6, by decide, by decide, fun H7 r7 hs7 hb7 h70 h71 => ?_⟩
      have b7 : But [sd] H6 H7 := fun a x ha e => (hb7 a (by simpa using ha)).trans e
      have s7 : Same H0 H7 := same_but sC nsd b7
      have hN7 := b7 _ _ (seed_strs hs6 hN6) hN6
      have hC7 := (hb7 Lc nCs).trans hC6
      obtain ⟨m7, hm7, hat7⟩ : ∃ m : Nat, m ≤ 148 ∧ atI [V.int 10, .int 40, .int (q5 : Nat)] r7 = some (.int (m : Nat)) := by
        have : r7 = 0 ∨ r7 = 1 ∨ r7 = 2 := by omega
        rcases this with e | e | e
        · exact ⟨10, by decide, by rw [e]; rfl⟩
        · exact ⟨40, by decide, by rw [e]; rfl⟩
        · exact ⟨q5, hq5, by rw [e]; rfl⟩
      refine ⟨Lc, _, r7, .int (m7 : Nat), rfl, rfl, ltI hC7, hat7, sd, N, nodes, m7, rfl, hs7, hNsd, hN7, hn, by omega, fun H8 R as es b8 hs8 hR0 hR8 hlen ok hRsd => ?_⟩
      have s8 : Same H0 H8 := same_but s7 nsd b8
      have hN8 := b8 _ _ (seed_strs hs7 hN7) hN7
      have R0 : H0 R = none := s7.free hR0
      clear hC7 hat7 b8 hR0 s7 hb7 b7 hs7 hs6 hC6 hN6 sC hLc nCs hs5 hB5 hN5 sB hLb hat5 s4 hN4 hs4
      -- it is right
      refine ⟨.ref sd, rfl, .ref N, rfl, .ref R, rfl, sd, N, R, nodes, as, es, rfl, hs8, hN8, hn, hR8, by omega, ok, fun H9 b9 hs9 => ⟨_, rfl, iteF ?_⟩⟩
      have s9 : Same H0 H9 := same_but s8 nsd b9
      obtain ⟨hN9, hR9⟩ := Given.but' hs8 b9 hN8 hR8
      clear s8 b9 hs8 hN8 hR8
      obtain ⟨last, hlast⟩ : ∃ l, nodes[nodes.length - 1]? = some l := ⟨_, List.getElem?_eq_getElem (by omega)⟩
      obtain ⟨first, hfirst⟩ : ∃ l, nodes[0]? = some l := ⟨_, List.getElem?_eq_getElem (by omega)⟩
      obtain ⟨ok1, hat1, ok2⟩ := grow hn ok hlast hfirst
      have atl : atI (nodes.map V.str) (-1) = some (.str last) := atI_last (by rw [List.length_map]; omega) (by rw [List.length_map, List.getElem?_map, hlast]; rfl)
      have atf : atI (nodes.map V.str) 0 = some (.str first) := atI_nat (j := 0) (by rw [List.getElem?_map, hfirst]; rfl)
      -- one send more
      refine ⟨.ref R, rfl, .inl ⟨rfl, _, .inl (.inl hR9.at')⟩, .ref N, rfl, 1, rfl, N, _, -1, .str last, rfl, rfl, ltI hN9, atl, .ref N, rfl, 1, rfl, -1, rfl, N, _, rfl, ltI hN9, fun l hl => ⟨by show 3 ≤ sizeLine; decide, fun t ht => ?_⟩⟩
      rw [cut_init nodes (by omega)] at ht ⊢
      have tl := same_new (o := .lst (nodes.dropLast.map V.str)) hl
      have tt := same_new (o := .tup [.str "send", .str last, .ref l]) ht
      have hR10 := hR9.same (tl.trans tt)
      have hN10 := (tl.trans tt) _ _ hN9
      have s10 := s9.trans (tl.trans tt)
      have ev10 : EvAt (upd (upd H9 l (.lst (nodes.dropLast.map V.str))) t (.tup [.str "send", .str last, .ref l])) t (.snd last nodes.dropLast) := ⟨l, upd_same, tt _ _ upd_same⟩
      have hs10 : SeedAt (upd (upd H9 l (.lst (nodes.dropLast.map V.str))) t (.tup [.str "send", .str last, .ref l])) sd := by
        obtain ⟨x, y, z, h1, h2⟩ := hs9
        exact ⟨x, y, z, (tl.trans tt) _ _ h1, h2⟩
      generalize upd (upd H9 l (.lst (nodes.dropLast.map V.str))) t (.tup [.str "send", .str last, .ref l]) = H10 at hR10 hN10 s10 ev10 hs10 ⊢
      refine ⟨R, _, _, rfl, rfl, hR10.at', small1000 (by rw [List.length_map, hR10.len]; omega), ?_⟩
      have hR11 := hR10.push hn ok1 ev10
      have nNR : N ≠ R := by
        intro z
        rw [z, hR10.at'] at hN10
        have := Option.some.inj hN10
        cases as with
        | nil =>
          cases nodes with
          | nil => simp at n2
          | cons _ _ => cases this
        | cons _ _ =>
          cases nodes with
          | nil => simp at n2
          | cons _ _ => cases this
      have hN11 : (upd H10 R (.lst (as.map V.ref ++ [.ref t]))) N = some (.lst (nodes.map V.str)) := (upd_ne nNR).trans hN10
      have s11 : Same H0 (upd H10 R (.lst (as.map V.ref ++ [.ref t]))) := same_put s10 R0
      have hs11 : SeedAt (upd H10 R (.lst (as.map V.ref ++ [.ref t]))) sd := by
        obtain ⟨x, y, z, h1, h2⟩ := hs10
        exact ⟨x, y, z, (upd_ne (Ne.symm hRsd)).trans h1, h2⟩
      generalize upd H10 R (.lst (as.map V.ref ++ [.ref t])) = H11 at hR11 hN11 s11 hs11 ⊢
      clear s10 hs10 hN10 hR10 ev10 tt tl s9 hs9 hN9 hR9
      have hl1 : (es ++ [Ev.snd last nodes.dropLast]).length = es.length + 1 := by simp
      generalize hes1 : es ++ [Ev.snd last nodes.dropLast] = es1 at ok1 hat1 ok2 hR11 hl1
      generalize has1 : as ++ [t] = as1 at hR11
      refine ⟨.ref sd, rfl, .ref N, rfl, .ref R, rfl, sd, N, R, nodes, as1, es1, rfl, hs11, hN11, hn, hR11, by omega, ok1, fun H12 b12 hs12 => ⟨_, rfl, iteF ?_⟩⟩
      have s12 : Same H0 H12 := same_but s11 nsd b12
      obtain ⟨hN12, hR12⟩ := Given.but' hs11 b12 hN11 hR11
      clear s11 b12 hs11 hN11 hR11
      -- the message
      refine ⟨.ref N, rfl, 1, rfl, N, _, -1, .str last, rfl, rfl, ltI hN12, atl, .ref R, rfl, R, rfl, ⟨_, ltI hR12.at'⟩, fun D hD => lc_list (xs := as1.map V.ref) (fun i H' => Same H12 H' ∧ ∃ acc, H' D = some (.lst acc) ∧ acc.length = ((Rs.upto nodes es1 i).sends last).length) ?_ ?_ ?_ ?_⟩
      · exact ⟨same_new hD, [], upd_same, rfl⟩
      · exact fun i H' _ hI => ltI (hI.1 _ _ hR12.at')
      · rintro k v H13 hv ⟨sm, acc, hacc, hal⟩
        rw [List.getElem?_map] at hv
        obtain ⟨a, ha, rfl⟩ := Option.map_eq_some_iff.mp hv
        obtain ⟨e, he⟩ : ∃ e, es1[k]? = some e := ⟨_, List.getElem?_eq_getElem (by rw [← hR12.len]; exact (List.getElem?_eq_some_iff.mp ha).1)⟩
        have hkl : k < es1.length := (List.getElem?_eq_some_iff.mp he).1
        obtain ⟨lx, hax⟩ := ev_head ((hR12.ev k a e ha he).same sm)
        refine ⟨by first | rfl | simp [wipe, List.set_set], .ref a, rfl, 2, rfl, a, _, rfl, tpI hax, ?_, fun c1 hc1' => ?_⟩
        · show ¬ (HT.sIx 3 0 none = 0 ∧ HT.sIx 3 3 (some 2) = 3)
          decide
        rw [show cutV [V.str e.kind, V.str e.node, V.ref lx] none (some 2) = [V.str e.kind, V.str e.node] from rfl]
        have tc := same_new (o := .tup [.str e.kind, .str e.node]) hc1'
        refine ⟨.ref N, rfl, 1, rfl, N, _, -1, .str last, rfl, rfl, ltI (tc _ _ (sm _ _ hN12)), atl, by show 2 ≤ sizeLine; decide, fun c2 hc2' => ?_⟩
        have td := same_new (o := .tup [.str "send", .str last]) hc2'
        have hnode : NameOk e.node := by
          have f := ev_facts hn ok1 he
          cases e with
          | snd x rs => exact hn.nm _ f.1
          | opn x s n => exact hn.nm _ f.1
        refine ⟨.tuple [.str e.kind, .str e.node], .tuple [.str "send", .str last], .tup (tpI (td _ _ upd_same)) (.cons (.str _) (.cons (.str _) .nil)), .tup (tpI upd_same) (.cons (.str _) (.cons (.str _) .nil)), shaped_head (kind_ok e) hnode, shaped_head NameOk.send (hn.nm _ (List.mem_of_getElem? hlast)), ?_⟩
        rw [eqv_head]
        have hcn := sends_cnt (nodes := nodes) (x := last) he
        have hsl : ((Rs.upto nodes es1 k).sends last).length ≤ k := sends_len
        refine ⟨_, rfl, ite2 (fun c => ?_) (fun c => ?_)⟩
        · refine ⟨.ref a, rfl, acc, td _ _ (tc _ _ hacc), small1000 (by omega), same_put ((sm.trans tc).trans td) hD, _, upd_same, ?_⟩
          rw [hcn, if_pos c, List.length_append, hal]
          rfl
        · refine ⟨(sm.trans tc).trans td, acc, td _ _ (tc _ _ hacc), ?_⟩
          rw [hcn, if_neg c, hal]
          rfl
      · rintro H13 ⟨sm, acc, hacc, hal⟩
        rw [List.length_map, hR12.len] at hal
        refine ⟨D, _, rfl, .inl (ltI hacc), ?_⟩
        rw [hal]
        refine ⟨by show 2 ≤ sizeLine; decide, fun m hm => ?_⟩
        have tm := same_new (o := .tup [.str last, .int ((((Rs.upto nodes es1 es1.length).sends last).length : Nat) : Int)]) hm
        have s14 := sm.trans tm
        have hm14 : (upd H13 m (.tup [.str last, .int ((((Rs.upto nodes es1 es1.length).sends last).length : Nat) : Int)])) m = some (.tup [.str last, .int ((((Rs.upto nodes es1 es1.length).sends last).length : Nat) : Int)]) := upd_same
        generalize upd H13 m (.tup [.str last, .int ((((Rs.upto nodes es1 es1.length).sends last).length : Nat) : Int)]) = H14 at s14 hm14 ⊢
        generalize hcnt : (((((Rs.upto nodes es1 es1.length).sends last).length : Nat)) : Int) = cn at hm14 hat1 ok2 ⊢
        -- its first open
        have hR14 := hR12.same s14
        refine ⟨.ref R, rfl, .inl ⟨rfl, _, .inl (.inl hR14.at')⟩, .ref N, rfl, N, _, 0, .str first, rfl, rfl, ltI (s14 _ _ hN12), atf, .ref m, rfl, by show 3 ≤ sizeLine; decide, fun t2 ht2 => ?_⟩
        have tt := same_new (o := .tup [.str "open", .str first, .ref m]) ht2
        have hR15 := hR14.same tt
        have ev15 : EvAt (upd H14 t2 (.tup [.str "open", .str first, .ref m])) t2 (.opn first last cn) := ⟨m, upd_same, tt _ _ hm14⟩
        refine ⟨R, _, _, rfl, rfl, hR15.at', small1000 (by rw [List.length_map, hR15.len]; omega), ?_⟩
        have hR16 := hR15.push hn ok2 ev15
        have hN16 : (upd (upd H14 t2 (.tup [.str "open", .str first, .ref m])) R (.lst (as1.map V.ref ++ [.ref t2]))) N = some (.lst (nodes.map V.str)) := (upd_ne nNR).trans (tt _ _ (s14 _ _ hN12))
        have hm16 : (upd (upd H14 t2 (.tup [.str "open", .str first, .ref m])) R (.lst (as1.map V.ref ++ [.ref t2]))) m = some (.tup [.str last, .int cn]) := (upd_ne (ne_of (tt _ _ hm14) hR15.at' (by intro z; cases z))).trans (tt _ _ hm14)
        have s16 : Same H0 (upd (upd H14 t2 (.tup [.str "open", .str first, .ref m])) R (.lst (as1.map V.ref ++ [.ref t2]))) := same_put ((s12.trans s14).trans tt) R0
        have hs16 : SeedAt (upd (upd H14 t2 (.tup [.str "open", .str first, .ref m])) R (.lst (as1.map V.ref ++ [.ref t2]))) sd := by
          obtain ⟨x, y, z, h1, h2⟩ := hs12
          exact ⟨x, y, z, (upd_ne (Ne.symm hRsd)).trans ((s14.trans tt) _ _ h1), h2⟩
        generalize upd (upd H14 t2 (.tup [.str "open", .str first, .ref m])) R (.lst (as1.map V.ref ++ [.ref t2])) = H16 at hR16 hN16 hm16 s16 hs16 ⊢
        have hl2 : (es1 ++ [Ev.opn first last cn]).length = es1.length + 1 := by simp
        have hval := opIx_last ok1 ok2
        have hat2 : sentAt (rsOf nodes (es1 ++ [Ev.opn first last cn])) nodes last cn = some es.length := sentAt_snoc hat1
        generalize hes2 : es1 ++ [Ev.opn first last cn] = es2 at ok2 hR16 hl2 hval hat2
        generalize has2 : as1 ++ [t2] = as2 at hR16
        have hfm := List.mem_of_getElem? hfirst
        refine ⟨.ref N, rfl, .ref R, rfl, .ref m, rfl, .ref N, rfl, N, _, 0, .str first, rfl, rfl, ltI hN16, atf, N, R, m, nodes, as2, es2, last, first, cn, es.length, rfl, ⟨hN16, hn, hR16, by omega, texts_of hn ok2⟩, ok2, hm16, hat2, hfm, fun H17 s17 => ?_⟩
        rw [open_told' ok2 hat2, hval]
        have hR17 := hR16.same s17
        refine ⟨.ref R, rfl, R, _, rfl, .inl (ltI hR17.at'), _, 1, rfl, rfl, rfl, false, ?_, ?_⟩
        · rw [List.length_map, hR17.len, hl2]
          simp
        have hs17 : SeedAt H17 sd := by
          obtain ⟨x, y, z, h1, h2⟩ := hs16
          exact ⟨x, y, z, s17 _ _ h1, h2⟩
        refine iteF ⟨.ref sd, rfl, .ref N, rfl, .ref R, rfl, sd, N, R, nodes, as2, es2, rfl, hs17, s17 _ _ hN16, hn, hR17, by omega, ok2, fun H18 b18 hs18 => ⟨_, rfl, iteF ⟨?_, _, _, _, _, _, _, rfl⟩⟩⟩
        have s18 : Same H0 H18 := same_but (s16.trans s17) nsd b18
        exact sq_move hS0 fun o ho => s18 _ _ ho
    · rintro σ H' _
      exact q _
end
end KA

set_option Elab.async false
set_option linter.all false
set_option maxRecDepth 100000
set_option maxHeartbeats 16000000
namespace KA
open PySem PySem.Spec PyProof.Rows L2 L2.Dx Kx
theorem all_mk {l : PySem.W.OpenLaw} {w : World} {K : PySem.W.Frag} {h : Heap} {mg : Str → Option Value} {fa : Addr} (X : K.In h) (G : h.Ns mainGlobals mg) (hfa : mg "law" = some (.ref fa))
    {f_is_nodes : Addr} {od_is_nodes an_is_nodes : Option Addr} {sl_is_nodes : Array (Option Value)} {oc_is_nodes kV_is_nodes dc_is_nodes pm_is_nodes cd_is_nodes ct_is_nodes : Value}
    {f_messages_of : Addr} {od_messages_of an_messages_of : Option Addr} {sl_messages_of : Array (Option Value)} {oc_messages_of kV_messages_of dc_messages_of pm_messages_of cd_messages_of ct_messages_of : Value}
    {f_send_index : Addr} {od_send_index an_send_index : Option Addr} {sl_send_index : Array (Option Value)} {oc_send_index kV_send_index dc_send_index pm_send_index cd_send_index ct_send_index : Value}
    {f_open_index : Addr} {od_open_index an_open_index : Option Addr} {sl_open_index : Array (Option Value)} {oc_open_index kV_open_index dc_open_index pm_open_index cd_open_index ct_open_index : Value}
    {f_is_node : Addr} {od_is_node an_is_node : Option Addr} {sl_is_node : Array (Option Value)} {oc_is_node kV_is_node dc_is_node pm_is_node cd_is_node ct_is_node : Value}
    {f_is_receivers : Addr} {od_is_receivers an_is_receivers : Option Addr} {sl_is_receivers : Array (Option Value)} {oc_is_receivers kV_is_receivers dc_is_receivers pm_is_receivers cd_is_receivers ct_is_receivers : Value}
    {f_find_send : Addr} {od_find_send an_find_send : Option Addr} {sl_find_send : Array (Option Value)} {oc_find_send kV_find_send dc_find_send pm_find_send cd_find_send ct_find_send : Value}
    {f_scan_run : Addr} {od_scan_run an_scan_run : Option Addr} {sl_scan_run : Array (Option Value)} {oc_scan_run kV_scan_run dc_scan_run pm_scan_run cd_scan_run ct_scan_run : Value}
    {f_check_nodes : Addr} {od_check_nodes an_check_nodes : Option Addr} {sl_check_nodes : Array (Option Value)} {oc_check_nodes kV_check_nodes dc_check_nodes pm_check_nodes cd_check_nodes ct_check_nodes : Value}
    {f_check_run : Addr} {od_check_run an_check_run : Option Addr} {sl_check_run : Array (Option Value)} {oc_check_run kV_check_run dc_check_run pm_check_run cd_check_run ct_check_run : Value}
    {f_check_node : Addr} {od_check_node an_check_node : Option Addr} {sl_check_node : Array (Option Value)} {oc_check_node kV_check_node dc_check_node pm_check_node cd_check_node ct_check_node : Value}
    {f_check_message : Addr} {od_check_message an_check_message : Option Addr} {sl_check_message : Array (Option Value)} {oc_check_message kV_check_message dc_check_message pm_check_message cd_check_message ct_check_message : Value}
    {f__law_seed : Addr} {od__law_seed an__law_seed : Option Addr} {sl__law_seed : Array (Option Value)} {oc__law_seed kV__law_seed dc__law_seed pm__law_seed cd__law_seed ct__law_seed : Value}
    {f__law_next : Addr} {od__law_next an__law_next : Option Addr} {sl__law_next : Array (Option Value)} {oc__law_next kV__law_next dc__law_next pm__law_next cd__law_next ct__law_next : Value}
    {f__law_nodes : Addr} {od__law_nodes an__law_nodes : Option Addr} {sl__law_nodes : Array (Option Value)} {oc__law_nodes kV__law_nodes dc__law_nodes pm__law_nodes cd__law_nodes ct__law_nodes : Value}
    {f__law_run : Addr} {od__law_run an__law_run : Option Addr} {sl__law_run : Array (Option Value)} {oc__law_run kV__law_run dc__law_run pm__law_run cd__law_run ct__law_run : Value}
    {f__law_sends : Addr} {od__law_sends an__law_sends : Option Addr} {sl__law_sends : Array (Option Value)} {oc__law_sends kV__law_sends dc__law_sends pm__law_sends cd__law_sends ct__law_sends : Value}
    {f__law_right : Addr} {od__law_right an__law_right : Option Addr} {sl__law_right : Array (Option Value)} {oc__law_right kV__law_right dc__law_right pm__law_right cd__law_right ct__law_right : Value}
    {f_law : Addr} {od_law an_law : Option Addr} {sl_law : Array (Option Value)} {oc_law kV_law dc_law pm_law cd_law ct_law : Value}
    (a_is_nodes : PySem.W.nsIn K mainGlobals "is_nodes" = some (some (.ref f_is_nodes))) (l_is_nodes : K.lookup f_is_nodes = some ⟨oc_is_nodes, od_is_nodes, .func (PySem.W.fnOf "is_nodes" "is_nodes" (defArgs s_is_nodes) (defBody s_is_nodes) (defScope s_is_nodes) .none kV_is_nodes dc_is_nodes pm_is_nodes an_is_nodes cd_is_nodes ct_is_nodes), sl_is_nodes⟩) (c_is_nodes : PySem.W.codeIn K cd_is_nodes "is_nodes" = true) (k_is_nodes : PySem.W.keepIn K (.ref f_is_nodes) = true)
    (a_messages_of : PySem.W.nsIn K mainGlobals "messages_of" = some (some (.ref f_messages_of))) (l_messages_of : K.lookup f_messages_of = some ⟨oc_messages_of, od_messages_of, .func (PySem.W.fnOf "messages_of" "messages_of" (defArgs s_messages_of) (defBody s_messages_of) (defScope s_messages_of) .none kV_messages_of dc_messages_of pm_messages_of an_messages_of cd_messages_of ct_messages_of), sl_messages_of⟩) (c_messages_of : PySem.W.codeIn K cd_messages_of "messages_of" = true) (k_messages_of : PySem.W.keepIn K (.ref f_messages_of) = true)
    (a_send_index : PySem.W.nsIn K mainGlobals "send_index" = some (some (.ref f_send_index))) (l_send_index : K.lookup f_send_index = some ⟨oc_send_index, od_send_index, .func (PySem.W.fnOf "send_index" "send_index" (defArgs s_send_index) (defBody s_send_index) (defScope s_send_index) .none kV_send_index dc_send_index pm_send_index an_send_index cd_send_index ct_send_index), sl_send_index⟩) (c_send_index : PySem.W.codeIn K cd_send_index "send_index" = true) (k_send_index : PySem.W.keepIn K (.ref f_send_index) = true)
    (a_open_index : PySem.W.nsIn K mainGlobals "open_index" = some (some (.ref f_open_index))) (l_open_index : K.lookup f_open_index = some ⟨oc_open_index, od_open_index, .func (PySem.W.fnOf "open_index" "open_index" (defArgs s_open_index) (defBody s_open_index) (defScope s_open_index) .none kV_open_index dc_open_index pm_open_index an_open_index cd_open_index ct_open_index), sl_open_index⟩) (c_open_index : PySem.W.codeIn K cd_open_index "open_index" = true) (k_open_index : PySem.W.keepIn K (.ref f_open_index) = true)
    (a_is_node : PySem.W.nsIn K mainGlobals "is_node" = some (some (.ref f_is_node))) (l_is_node : K.lookup f_is_node = some ⟨oc_is_node, od_is_node, .func (PySem.W.fnOf "is_node" "is_node" (defArgs s_is_node) (defBody s_is_node) (defScope s_is_node) .none kV_is_node dc_is_node pm_is_node an_is_node cd_is_node ct_is_node), sl_is_node⟩) (c_is_node : PySem.W.codeIn K cd_is_node "is_node" = true) (k_is_node : PySem.W.keepIn K (.ref f_is_node) = true)
    (a_is_receivers : PySem.W.nsIn K mainGlobals "is_receivers" = some (some (.ref f_is_receivers))) (l_is_receivers : K.lookup f_is_receivers = some ⟨oc_is_receivers, od_is_receivers, .func (PySem.W.fnOf "is_receivers" "is_receivers" (defArgs s_is_receivers) (defBody s_is_receivers) (defScope s_is_receivers) .none kV_is_receivers dc_is_receivers pm_is_receivers an_is_receivers cd_is_receivers ct_is_receivers), sl_is_receivers⟩) (c_is_receivers : PySem.W.codeIn K cd_is_receivers "is_receivers" = true) (k_is_receivers : PySem.W.keepIn K (.ref f_is_receivers) = true)
    (a_find_send : PySem.W.nsIn K mainGlobals "find_send" = some (some (.ref f_find_send))) (l_find_send : K.lookup f_find_send = some ⟨oc_find_send, od_find_send, .func (PySem.W.fnOf "find_send" "find_send" (defArgs s_find_send) (defBody s_find_send) (defScope s_find_send) .none kV_find_send dc_find_send pm_find_send an_find_send cd_find_send ct_find_send), sl_find_send⟩) (c_find_send : PySem.W.codeIn K cd_find_send "find_send" = true) (k_find_send : PySem.W.keepIn K (.ref f_find_send) = true)
    (a_scan_run : PySem.W.nsIn K mainGlobals "scan_run" = some (some (.ref f_scan_run))) (l_scan_run : K.lookup f_scan_run = some ⟨oc_scan_run, od_scan_run, .func (PySem.W.fnOf "scan_run" "scan_run" (defArgs s_scan_run) (defBody s_scan_run) (defScope s_scan_run) .none kV_scan_run dc_scan_run pm_scan_run an_scan_run cd_scan_run ct_scan_run), sl_scan_run⟩) (c_scan_run : PySem.W.codeIn K cd_scan_run "scan_run" = true) (k_scan_run : PySem.W.keepIn K (.ref f_scan_run) = true)
    (a_check_nodes : PySem.W.nsIn K mainGlobals "check_nodes" = some (some (.ref f_check_nodes))) (l_check_nodes : K.lookup f_check_nodes = some ⟨oc_check_nodes, od_check_nodes, .func (PySem.W.fnOf "check_nodes" "check_nodes" (defArgs s_check_nodes) (defBody s_check_nodes) (defScope s_check_nodes) .none kV_check_nodes dc_check_nodes pm_check_nodes an_check_nodes cd_check_nodes ct_check_nodes), sl_check_nodes⟩) (c_check_nodes : PySem.W.codeIn K cd_check_nodes "check_nodes" = true) (k_check_nodes : PySem.W.keepIn K (.ref f_check_nodes) = true)
    (a_check_run : PySem.W.nsIn K mainGlobals "check_run" = some (some (.ref f_check_run))) (l_check_run : K.lookup f_check_run = some ⟨oc_check_run, od_check_run, .func (PySem.W.fnOf "check_run" "check_run" (defArgs s_check_run) (defBody s_check_run) (defScope s_check_run) .none kV_check_run dc_check_run pm_check_run an_check_run cd_check_run ct_check_run), sl_check_run⟩) (c_check_run : PySem.W.codeIn K cd_check_run "check_run" = true) (k_check_run : PySem.W.keepIn K (.ref f_check_run) = true)
    (a_check_node : PySem.W.nsIn K mainGlobals "check_node" = some (some (.ref f_check_node))) (l_check_node : K.lookup f_check_node = some ⟨oc_check_node, od_check_node, .func (PySem.W.fnOf "check_node" "check_node" (defArgs s_check_node) (defBody s_check_node) (defScope s_check_node) .none kV_check_node dc_check_node pm_check_node an_check_node cd_check_node ct_check_node), sl_check_node⟩) (c_check_node : PySem.W.codeIn K cd_check_node "check_node" = true) (k_check_node : PySem.W.keepIn K (.ref f_check_node) = true)
    (a_check_message : PySem.W.nsIn K mainGlobals "check_message" = some (some (.ref f_check_message))) (l_check_message : K.lookup f_check_message = some ⟨oc_check_message, od_check_message, .func (PySem.W.fnOf "check_message" "check_message" (defArgs s_check_message) (defBody s_check_message) (defScope s_check_message) .none kV_check_message dc_check_message pm_check_message an_check_message cd_check_message ct_check_message), sl_check_message⟩) (c_check_message : PySem.W.codeIn K cd_check_message "check_message" = true) (k_check_message : PySem.W.keepIn K (.ref f_check_message) = true)
    (a__law_seed : PySem.W.nsIn K mainGlobals "_law_seed" = some (some (.ref f__law_seed))) (l__law_seed : K.lookup f__law_seed = some ⟨oc__law_seed, od__law_seed, .func (PySem.W.fnOf "_law_seed" "_law_seed" (defArgs s__law_seed) (defBody s__law_seed) (defScope s__law_seed) .none kV__law_seed dc__law_seed pm__law_seed an__law_seed cd__law_seed ct__law_seed), sl__law_seed⟩) (c__law_seed : PySem.W.codeIn K cd__law_seed "_law_seed" = true) (k__law_seed : PySem.W.keepIn K (.ref f__law_seed) = true)
    (a__law_next : PySem.W.nsIn K mainGlobals "_law_next" = some (some (.ref f__law_next))) (l__law_next : K.lookup f__law_next = some ⟨oc__law_next, od__law_next, .func (PySem.W.fnOf "_law_next" "_law_next" (defArgs s__law_next) (defBody s__law_next) (defScope s__law_next) .none kV__law_next dc__law_next pm__law_next an__law_next cd__law_next ct__law_next), sl__law_next⟩) (c__law_next : PySem.W.codeIn K cd__law_next "_law_next" = true) (k__law_next : PySem.W.keepIn K (.ref f__law_next) = true)
    (a__law_nodes : PySem.W.nsIn K mainGlobals "_law_nodes" = some (some (.ref f__law_nodes))) (l__law_nodes : K.lookup f__law_nodes = some ⟨oc__law_nodes, od__law_nodes, .func (PySem.W.fnOf "_law_nodes" "_law_nodes" (defArgs s__law_nodes) (defBody s__law_nodes) (defScope s__law_nodes) .none kV__law_nodes dc__law_nodes pm__law_nodes an__law_nodes cd__law_nodes ct__law_nodes), sl__law_nodes⟩) (c__law_nodes : PySem.W.codeIn K cd__law_nodes "_law_nodes" = true) (k__law_nodes : PySem.W.keepIn K (.ref f__law_nodes) = true)
    (a__law_run : PySem.W.nsIn K mainGlobals "_law_run" = some (some (.ref f__law_run))) (l__law_run : K.lookup f__law_run = some ⟨oc__law_run, od__law_run, .func (PySem.W.fnOf "_law_run" "_law_run" (defArgs s__law_run) (defBody s__law_run) (defScope s__law_run) .none kV__law_run dc__law_run pm__law_run an__law_run cd__law_run ct__law_run), sl__law_run⟩) (c__law_run : PySem.W.codeIn K cd__law_run "_law_run" = true) (k__law_run : PySem.W.keepIn K (.ref f__law_run) = true)
    (a__law_sends : PySem.W.nsIn K mainGlobals "_law_sends" = some (some (.ref f__law_sends))) (l__law_sends : K.lookup f__law_sends = some ⟨oc__law_sends, od__law_sends, .func (PySem.W.fnOf "_law_sends" "_law_sends" (defArgs s__law_sends) (defBody s__law_sends) (defScope s__law_sends) .none kV__law_sends dc__law_sends pm__law_sends an__law_sends cd__law_sends ct__law_sends), sl__law_sends⟩) (c__law_sends : PySem.W.codeIn K cd__law_sends "_law_sends" = true) (k__law_sends : PySem.W.keepIn K (.ref f__law_sends) = true)
    (a__law_right : PySem.W.nsIn K mainGlobals "_law_right" = some (some (.ref f__law_right))) (l__law_right : K.lookup f__law_right = some ⟨oc__law_right, od__law_right, .func (PySem.W.fnOf "_law_right" "_law_right" (defArgs s__law_right) (defBody s__law_right) (defScope s__law_right) .none kV__law_right dc__law_right pm__law_right an__law_right cd__law_right ct__law_right), sl__law_right⟩) (c__law_right : PySem.W.codeIn K cd__law_right "_law_right" = true) (k__law_right : PySem.W.keepIn K (.ref f__law_right) = true)
    (a_law : PySem.W.nsIn K mainGlobals "law" = some (some (.ref f_law))) (l_law : K.lookup f_law = some ⟨oc_law, od_law, .func (PySem.W.fnOf "law" "law" (defArgs s_law) (defBody s_law) (defScope s_law) .none kV_law dc_law pm_law an_law cd_law ct_law), sl_law⟩) (c_law : PySem.W.codeIn K cd_law "law" = true) (k_law : PySem.W.keepIn K (.ref f_law) = true)
    (z_isinstance : PySem.W.nsIn K mainGlobals "isinstance" = some none) (z_list : PySem.W.nsIn K mainGlobals "list" = some none) (z_str : PySem.W.nsIn K mainGlobals "str" = some none) (z_len : PySem.W.nsIn K mainGlobals "len" = some none) (z_tuple : PySem.W.nsIn K mainGlobals "tuple" = some none) (z_int : PySem.W.nsIn K mainGlobals "int" = some none) (z_bool : PySem.W.nsIn K mainGlobals "bool" = some none) (z_dict : PySem.W.nsIn K mainGlobals "dict" = some none) (z_sum : PySem.W.nsIn K mainGlobals "sum" = some none) (z_max : PySem.W.nsIn K mainGlobals "max" = some none) (z_min : PySem.W.nsIn K mainGlobals "min" = some none) (z_range : PySem.W.nsIn K mainGlobals "range" = some none) (z_enumerate : PySem.W.nsIn K mainGlobals "enumerate" = some none) (z_sorted : PySem.W.nsIn K mainGlobals "sorted" = some none) (z_zip : PySem.W.nsIn K mainGlobals "zip" = some none) (z_reversed : PySem.W.nsIn K mainGlobals "reversed" = some none) (z_abs : PySem.W.nsIn K mainGlobals "abs" = some none) (z_repr : PySem.W.nsIn K mainGlobals "repr" = some none) (z_set : PySem.W.nsIn K mainGlobals "set" = some none) (z_any : PySem.W.nsIn K mainGlobals "any" = some none) (z_all : PySem.W.nsIn K mainGlobals "all" = some none) :
    ∃ fd : FuncData, (∀ (s : Shared) (v : Value), BindsTo s fd ⟨[v], []⟩ [("script", v)]) ∧ ∀ base : Heap, K.In base → base.Ns mainGlobals mg → L2.Dx.FnG l.prog w K mg base CX0 6 fa fd ["script"] (sp_law K) := by
  have e := hfa.symm.trans (PySem.W.mg_of X G a_law)
  cases e
  refine ⟨PySem.W.fnOf "law" "law" (defArgs s_law) (defBody s_law) (defScope s_law) .none kV_law dc_law pm_law an_law cd_law ct_law, fun s v => .of_eq rfl, fun base _ _ => ?_⟩
  exact ok_law (P := l.prog) (w := w) (base := base) ({ f_is_nodes := _, fd_is_nodes := _, F_is_nodes := fun_mk (st := s_is_nodes) l_is_nodes c_is_nodes k_is_nodes, M_is_nodes := PySem.W.mg_of X G a_is_nodes, f_messages_of := _, fd_messages_of := _, F_messages_of := fun_mk (st := s_messages_of) l_messages_of c_messages_of k_messages_of, M_messages_of := PySem.W.mg_of X G a_messages_of, f_send_index := _, fd_send_index := _, F_send_index := fun_mk (st := s_send_index) l_send_index c_send_index k_send_index, M_send_index := PySem.W.mg_of X G a_send_index, f_open_index := _, fd_open_index := _, F_open_index := fun_mk (st := s_open_index) l_open_index c_open_index k_open_index, M_open_index := PySem.W.mg_of X G a_open_index, f_is_node := _, fd_is_node := _, F_is_node := fun_mk (st := s_is_node) l_is_node c_is_node k_is_node, M_is_node := PySem.W.mg_of X G a_is_node, f_is_receivers := _, fd_is_receivers := _, F_is_receivers := fun_mk (st := s_is_receivers) l_is_receivers c_is_receivers k_is_receivers, M_is_receivers := PySem.W.mg_of X G a_is_receivers, f_find_send := _, fd_find_send := _, F_find_send := fun_mk (st := s_find_send) l_find_send c_find_send k_find_send, M_find_send := PySem.W.mg_of X G a_find_send, f_scan_run := _, fd_scan_run := _, F_scan_run := fun_mk (st := s_scan_run) l_scan_run c_scan_run k_scan_run, M_scan_run := PySem.W.mg_of X G a_scan_run, f_check_nodes := _, fd_check_nodes := _, F_check_nodes := fun_mk (st := s_check_nodes) l_check_nodes c_check_nodes k_check_nodes, M_check_nodes := PySem.W.mg_of X G a_check_nodes, f_check_run := _, fd_check_run := _, F_check_run := fun_mk (st := s_check_run) l_check_run c_check_run k_check_run, M_check_run := PySem.W.mg_of X G a_check_run, f_check_node := _, fd_check_node := _, F_check_node := fun_mk (st := s_check_node) l_check_node c_check_node k_check_node, M_check_node := PySem.W.mg_of X G a_check_node, f_check_message := _, fd_check_message := _, F_check_message := fun_mk (st := s_check_message) l_check_message c_check_message k_check_message, M_check_message := PySem.W.mg_of X G a_check_message, f__law_seed := _, fd__law_seed := _, F__law_seed := fun_mk (st := s__law_seed) l__law_seed c__law_seed k__law_seed, M__law_seed := PySem.W.mg_of X G a__law_seed, f__law_next := _, fd__law_next := _, F__law_next := fun_mk (st := s__law_next) l__law_next c__law_next k__law_next, M__law_next := PySem.W.mg_of X G a__law_next, f__law_nodes := _, fd__law_nodes := _, F__law_nodes := fun_mk (st := s__law_nodes) l__law_nodes c__law_nodes k__law_nodes, M__law_nodes := PySem.W.mg_of X G a__law_nodes, f__law_run := _, fd__law_run := _, F__law_run := fun_mk (st := s__law_run) l__law_run c__law_run k__law_run, M__law_run := PySem.W.mg_of X G a__law_run, f__law_sends := _, fd__law_sends := _, F__law_sends := fun_mk (st := s__law_sends) l__law_sends c__law_sends k__law_sends, M__law_sends := PySem.W.mg_of X G a__law_sends, f__law_right := _, fd__law_right := _, F__law_right := fun_mk (st := s__law_right) l__law_right c__law_right k__law_right, M__law_right := PySem.W.mg_of X G a__law_right, f_law := _, fd_law := _, F_law := fun_mk (st := s_law) l_law c_law k_law, M_law := PySem.W.mg_of X G a_law, m_isinstance := PySem.W.mg_none_of X G z_isinstance, m_list := PySem.W.mg_none_of X G z_list, m_str := PySem.W.mg_none_of X G z_str, m_len := PySem.W.mg_none_of X G z_len, m_tuple := PySem.W.mg_none_of X G z_tuple, m_int := PySem.W.mg_none_of X G z_int, m_bool := PySem.W.mg_none_of X G z_bool, m_dict := PySem.W.mg_none_of X G z_dict, m_sum := PySem.W.mg_none_of X G z_sum, m_max := PySem.W.mg_none_of X G z_max, m_min := PySem.W.mg_none_of X G z_min, m_range := PySem.W.mg_none_of X G z_range, m_enumerate := PySem.W.mg_none_of X G z_enumerate, m_sorted := PySem.W.mg_none_of X G z_sorted, m_zip := PySem.W.mg_none_of X G z_zip, m_reversed := PySem.W.mg_none_of X G z_reversed, m_abs := PySem.W.mg_none_of X G z_abs, m_repr := PySem.W.mg_none_of X G z_repr, m_set := PySem.W.mg_none_of X G z_set, m_any := PySem.W.mg_none_of X G z_any, m_all := PySem.W.mg_none_of X G z_all } : Txt K mg)
end KA
open PySem PySem.W PyProof.Rows
set_option maxHeartbeats 0 in
theorem PySem.Challenge.cw_waitlists_k02_messages_and_indices_holds : PySem.Challenge.rw_waitlists_k02_messages_and_indices.Holds := by
  w_on; o_law; k_head; (case hw => w_witness2)
  k_fill
  refine L2.Dx.walk_ofG (l := PySem.Challenge.rw_waitlists_k02_messages_and_indices) (n := 63) (k := 6) (x := "script") (CX := fun _ => L2.CX0) (sp := fun w => KA.sp_law _) rfl (by decide) rfl ⟨rfl, by decide, by decide⟩ (fun w h Y => PySem.W.kIn_of Y) ?F (fun _ _ a ns hl _ hS => ⟨a, ns, rfl, hS, hl, fun _ => rfl⟩) (fun _ _ _ _ _ h => h)
  case F =>
    intro w mg fa h KX G hmg
    refine' KA.all_mk KX G hmg ?a_is_nodes ?l_is_nodes ?c_is_nodes ?k_is_nodes ?a_messages_of ?l_messages_of ?c_messages_of ?k_messages_of ?a_send_index ?l_send_index ?c_send_index ?k_send_index ?a_open_index ?l_open_index ?c_open_index ?k_open_index ?a_is_node ?l_is_node ?c_is_node ?k_is_node ?a_is_receivers ?l_is_receivers ?c_is_receivers ?k_is_receivers ?a_find_send ?l_find_send ?c_find_send ?k_find_send ?a_scan_run ?l_scan_run ?c_scan_run ?k_scan_run ?a_check_nodes ?l_check_nodes ?c_check_nodes ?k_check_nodes ?a_check_run ?l_check_run ?c_check_run ?k_check_run ?a_check_node ?l_check_node ?c_check_node ?k_check_node ?a_check_message ?l_check_message ?c_check_message ?k_check_message ?a__law_seed ?l__law_seed ?c__law_seed ?k__law_seed ?a__law_next ?l__law_next ?c__law_next ?k__law_next ?a__law_nodes ?l__law_nodes ?c__law_nodes ?k__law_nodes ?a__law_run ?l__law_run ?c__law_run ?k__law_run ?a__law_sends ?l__law_sends ?c__law_sends ?k__law_sends ?a__law_right ?l__law_right ?c__law_right ?k__law_right ?a_law ?l_law ?c_law ?k_law ?z_isinstance ?z_list ?z_str ?z_len ?z_tuple ?z_int ?z_bool ?z_dict ?z_sum ?z_max ?z_min ?z_range ?z_enumerate ?z_sorted ?z_zip ?z_reversed ?z_abs ?z_repr ?z_set ?z_any ?z_all
    (case a_is_nodes => k_is); (case l_is_nodes => k_is); (case c_is_nodes => k_is); (case k_is_nodes => k_is); (case a_messages_of => k_is); (case l_messages_of => k_is); (case c_messages_of => k_is); (case k_messages_of => k_is); (case a_send_index => k_is); (case l_send_index => k_is); (case c_send_index => k_is); (case k_send_index => k_is); (case a_open_index => k_is); (case l_open_index => k_is); (case c_open_index => k_is); (case k_open_index => k_is); (case a_is_node => k_is); (case l_is_node => k_is); (case c_is_node => k_is); (case k_is_node => k_is); (case a_is_receivers => k_is); (case l_is_receivers => k_is); (case c_is_receivers => k_is); (case k_is_receivers => k_is); (case a_find_send => k_is); (case l_find_send => k_is); (case c_find_send => k_is); (case k_find_send => k_is); (case a_scan_run => k_is); (case l_scan_run => k_is); (case c_scan_run => k_is); (case k_scan_run => k_is); (case a_check_nodes => k_is); (case l_check_nodes => k_is); (case c_check_nodes => k_is); (case k_check_nodes => k_is); (case a_check_run => k_is); (case l_check_run => k_is); (case c_check_run => k_is); (case k_check_run => k_is); (case a_check_node => k_is); (case l_check_node => k_is); (case c_check_node => k_is); (case k_check_node => k_is); (case a_check_message => k_is); (case l_check_message => k_is); (case c_check_message => k_is); (case k_check_message => k_is); (case a__law_seed => k_is); (case l__law_seed => k_is); (case c__law_seed => k_is); (case k__law_seed => k_is); (case a__law_next => k_is); (case l__law_next => k_is); (case c__law_next => k_is); (case k__law_next => k_is); (case a__law_nodes => k_is); (case l__law_nodes => k_is); (case c__law_nodes => k_is); (case k__law_nodes => k_is); (case a__law_run => k_is); (case l__law_run => k_is); (case c__law_run => k_is); (case k__law_run => k_is); (case a__law_sends => k_is); (case l__law_sends => k_is); (case c__law_sends => k_is); (case k__law_sends => k_is); (case a__law_right => k_is); (case l__law_right => k_is); (case c__law_right => k_is); (case k__law_right => k_is); (case a_law => k_is); (case l_law => k_is); (case c_law => k_is); (case k_law => k_is); (case z_isinstance => k_is); (case z_list => k_is); (case z_str => k_is); (case z_len => k_is); (case z_tuple => k_is); (case z_int => k_is); (case z_bool => k_is); (case z_dict => k_is); (case z_sum => k_is); (case z_max => k_is); (case z_min => k_is); (case z_range => k_is); (case z_enumerate => k_is); (case z_sorted => k_is); (case z_zip => k_is); (case z_reversed => k_is); (case z_abs => k_is); (case z_repr => k_is); (case z_set => k_is); (case z_any => k_is); (case z_all => k_is)
