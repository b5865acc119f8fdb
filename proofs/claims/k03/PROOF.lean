import PyProof.Rows.All
import Wide.All
import OpenK.AllK
import Wide.FinOn
import PyProof.ListMulRoad
import HandS.ForMost
import HandS.IsInst
import HandS.TupAny
import HandS.TupMul
import HandS.Star
import HandS.Wide
import HandS.Style
import HandS.TryOnly
import HandS.NoneIn
import HandS.Gcd
import KE.DatumOrd
import PySem.Challenge.RW_noroadback_k03_whole_rings_and_words_bet
set_option Elab.async false
set_option linter.all false
set_option maxRecDepth 100000
set_option maxHeartbeats 4000000
/-! Words in which an entry and its opposite strike each other out: what is left, and what goes along with it. -/
namespace Fr
/-- the entry e laid on a pile (its top first) -/
def push (e : Int) : List Int → List Int
  | [] => [e]
  | x :: t => if x = -e then t else e :: x :: t
def act (w s : List Int) : List Int := w.foldl (fun s e => push e s) s
def red (w : List Int) : List Int := (act w []).reverse
def Nf : List Int → Prop
  | [] => True
  | [_] => True
  | x :: y :: t => x ≠ -y ∧ Nf (y :: t)
def opp (w : List Int) : List Int := (w.map fun e => -e).reverse
def rep (w : List Int) : Nat → List Int
  | 0 => []
  | n + 1 => rep w n ++ w

theorem push_eq {e x : Int} {t : List Int} (h : x = -e) : push e (x :: t) = t := by
  show (if x = -e then t else e :: x :: t) = t
  rw [if_pos h]
theorem push_on {e x : Int} {t : List Int} (h : ¬ x = -e) : push e (x :: t) = e :: x :: t := by
  show (if x = -e then t else e :: x :: t) = e :: x :: t
  rw [if_neg h]
theorem Nf.tail {x : Int} {t : List Int} (h : Nf (x :: t)) : Nf t := by
  cases t with
  | nil => exact True.intro
  | cons y t => exact h.2
theorem push_nf {e : Int} {s : List Int} (h : Nf s) : Nf (push e s) := by
  cases s with
  | nil => exact True.intro
  | cons x t =>
    by_cases hx : x = -e
    · rw [push_eq hx]; exact h.tail
    · rw [push_on hx]; exact ⟨fun q => hx (by omega), h⟩
theorem push_back {e : Int} {s : List Int} (h : Nf s) : push (-e) (push e s) = s := by
  cases s with
  | nil => exact push_eq (t := []) (by omega)
  | cons x t =>
    by_cases hx : x = -e
    · have h1 : push e (x :: t) = t := push_eq hx
      rw [h1]
      cases t with
      | nil => show [-e] = [x]; rw [hx]
      | cons y t =>
        have hn : ¬ y = - -e := fun q => h.1 (by omega)
        show (if y = - -e then t else -e :: y :: t) = x :: y :: t
        rw [if_neg hn, hx]
    · have h1 : push e (x :: t) = e :: x :: t := push_on hx
      rw [h1]
      show (if e = - -e then x :: t else _) = x :: t
      rw [if_pos (by omega)]
theorem push_fwd {e : Int} {s : List Int} (h : Nf s) : push e (push (-e) s) = s := by
  have := push_back (e := -e) h
  rwa [Int.neg_neg] at this
theorem act_nil (s : List Int) : act [] s = s := rfl
theorem act_cons (e : Int) (w s : List Int) : act (e :: w) s = act w (push e s) := rfl
theorem act_app (a b s : List Int) : act (a ++ b) s = act b (act a s) := List.foldl_append
theorem act_nf : ∀ (w : List Int) {s : List Int}, Nf s → Nf (act w s)
  | [], _, h => h
  | e :: w, _, h => act_nf w (push_nf h)
theorem opp_nil : opp [] = [] := rfl
theorem opp_cons (e : Int) (w : List Int) : opp (e :: w) = opp w ++ [-e] := by unfold opp; rw [List.map_cons, List.reverse_cons]
theorem opp_app (a b : List Int) : opp (a ++ b) = opp b ++ opp a := by unfold opp; rw [List.map_append, List.reverse_append]
theorem opp_opp (w : List Int) : opp (opp w) = w := by
  induction w with
  | nil => rfl
  | cons e w ih => rw [opp_cons, opp_app, ih]; show [- -e] ++ w = e :: w; rw [Int.neg_neg]; rfl
theorem opp_len (w : List Int) : (opp w).length = w.length := by unfold opp; rw [List.length_reverse, List.length_map]
theorem act_opp : ∀ (w : List Int) {s : List Int}, Nf s → act (opp w) (act w s) = s
  | [], _, _ => rfl
  | e :: w, s, h => by
    rw [opp_cons, act_app]
    show push (-e) (act (opp w) (act w (push e s))) = s
    rw [act_opp w (push_nf h)]
    exact push_back h
theorem opp_act (w : List Int) {s : List Int} (h : Nf s) : act w (act (opp w) s) = s := by
  have := act_opp (opp w) h
  rwa [opp_opp] at this
theorem snoc_ind {P : List Int → Prop} (h0 : P []) (h1 : ∀ w e, P w → P (w ++ [e])) (w : List Int) : P w := by
  have h : ∀ v : List Int, P v.reverse := fun v => by
    induction v with
    | nil => exact h0
    | cons e v ih => rw [List.reverse_cons]; exact h1 _ _ ih
  have := h w.reverse
  rwa [List.reverse_reverse] at this
theorem red_snoc (w : List Int) (e : Int) : red (w ++ [e]) = (push e (act w [])).reverse := by unfold red; rw [act_app]; rfl
/-- what is left acts as the whole -/
theorem act_red (w : List Int) : ∀ {s : List Int}, Nf s → act (red w) s = act w s := by
  refine snoc_ind (P := fun w => ∀ {s : List Int}, Nf s → act (red w) s = act w s) (fun _ => rfl) (fun w e ih => ?_) w
  intro s h
  rw [red_snoc, act_app]
  show act (push e (act w [])).reverse s = push e (act w s)
  rw [← ih h]
  unfold red
  cases q : act w [] with
  | nil => rfl
  | cons x t =>
    by_cases hx : x = -e
    · have h1 : push e (x :: t) = t := push_eq hx
      rw [h1, List.reverse_cons, act_app, hx]
      show act t.reverse s = push e (push (-e) (act t.reverse s))
      rw [push_fwd (act_nf _ h)]
    · have h1 : push e (x :: t) = e :: x :: t := push_on hx
      rw [h1, List.reverse_cons, act_app]
      rfl
theorem Nf.of_act (w : List Int) : Nf (act w []) := act_nf w (s := []) True.intro
/-- a bare row with a bare end: the two ends as they meet -/
theorem nf_snoc2 : ∀ {w : List Int} {x y : Int}, Nf (w ++ [x]) → x ≠ -y → Nf (w ++ [x, y])
  | [], _, _, _, h => ⟨h, True.intro⟩
  | [a], _, _, h1, h => ⟨h1.1, h, True.intro⟩
  | a :: b :: w, _, _, h1, h => ⟨h1.1, nf_snoc2 (w := b :: w) h1.2 h⟩
theorem nf_rev {w : List Int} (h : Nf w) : Nf w.reverse := by
  induction w with
  | nil => exact True.intro
  | cons x w ih =>
    cases w with
    | nil => exact True.intro
    | cons y w =>
      rw [List.reverse_cons, List.reverse_cons, List.append_assoc]
      have h2 := ih h.2
      rw [List.reverse_cons] at h2
      exact nf_snoc2 h2 fun q => h.1 (by omega)
theorem red_nf (w : List Int) : Nf (red w) := nf_rev (Nf.of_act w)
theorem nf_front : ∀ {a b : List Int}, Nf (a ++ b) → Nf a
  | [], _, _ => True.intro
  | [_], _, _ => True.intro
  | _ :: y :: a, _, h => ⟨h.1, nf_front (a := y :: a) h.2⟩
theorem nf_back : ∀ {a b : List Int}, Nf (a ++ b) → Nf b
  | [], _, h => h
  | _ :: _, _, h => nf_back h.tail
theorem act_bare (w : List Int) : Nf w → act w [] = w.reverse := by
  refine snoc_ind (P := fun w => Nf w → act w [] = w.reverse) (fun _ => rfl) (fun w e ih h => ?_) w
  rw [act_app, ih (nf_front h), List.reverse_append]
  show push e w.reverse = [e].reverse ++ w.reverse
  cases q : w.reverse with
  | nil => rfl
  | cons x t =>
    have hw : w = t.reverse ++ [x] := by
      have := congrArg List.reverse q
      rwa [List.reverse_reverse, List.reverse_cons] at this
    rw [hw, List.append_assoc] at h
    have h2 : Nf [x, e] := nf_back h
    show (if x = -e then t else e :: x :: t) = e :: x :: t
    rw [if_neg h2.1]
theorem red_id {w : List Int} (h : Nf w) : red w = w := by unfold red; rw [act_bare w h, List.reverse_reverse]
theorem red_congr {a b : List Int} (h : act a [] = act b []) : red a = red b := by unfold red; rw [h]
theorem red_app_l (a b : List Int) : red (red a ++ b) = red (a ++ b) := red_congr (by rw [act_app, act_app, act_red a (s := []) True.intro])
theorem red_app_r (a b : List Int) : red (a ++ red b) = red (a ++ b) := red_congr (by rw [act_app, act_app, act_red b (Nf.of_act a)])
theorem red_red (a : List Int) : red (red a) = red a := red_id (red_nf a)
theorem red_opp_self (w : List Int) : red (w ++ opp w) = [] := by
  unfold red
  rw [act_app, act_opp w (s := []) True.intro]
  rfl
theorem red_opp (x : List Int) : red (opp x) = red (opp (red x)) := by
  refine red_congr ?_
  have n : Nf (act (opp (red x)) []) := act_nf _ (s := []) True.intro
  have h1 : act x (act (opp (red x)) []) = [] := by
    rw [← act_red x n]
    exact opp_act (red x) (s := []) True.intro
  have h2 := act_opp x n
  rw [h1] at h2
  exact h2
theorem nf_map_neg : ∀ {w : List Int}, Nf w → Nf (w.map fun e => -e)
  | [], _ => True.intro
  | [_], _ => True.intro
  | x :: y :: w, h => ⟨fun q => h.1 (by have q2 : -x = - -y := q; omega), nf_map_neg (w := y :: w) h.2⟩
theorem nf_opp {w : List Int} (h : Nf w) : Nf (opp w) := nf_rev (nf_map_neg h)
theorem opp_red (x : List Int) : opp (red x) = red (opp x) := by rw [red_opp, red_id (nf_opp (red_nf x))]
/-- a struck pair -/
theorem red_strike (a b : List Int) (x y : Int) (h : x = -y) : red (a ++ x :: y :: b) = red (a ++ b) := red_congr (by
  rw [act_app, act_app, act_cons, act_cons]
  have e : y = -x := by omega
  rw [e, push_back (Nf.of_act a)])

/-! powers -/
theorem rep_len (w : List Int) : ∀ n, (rep w n).length = n * w.length
  | 0 => by simp [rep]
  | n + 1 => by
    show (rep w n ++ w).length = _
    rw [List.length_append, rep_len w n, Nat.succ_mul]
theorem rep_nil : ∀ n, rep [] n = []
  | 0 => rfl
  | n + 1 => by show rep [] n ++ [] = []; rw [rep_nil n]; rfl
theorem rep_front (w : List Int) : ∀ n, rep w (n + 1) = w ++ rep w n
  | 0 => by show [] ++ w = w ++ []; simp
  | n + 1 => by
    show rep w (n + 1) ++ w = w ++ (rep w n ++ w)
    rw [rep_front w n, List.append_assoc]
theorem opp_rep (w : List Int) : ∀ n, opp (rep w n) = rep (opp w) n
  | 0 => rfl
  | n + 1 => by
    show opp (rep w n ++ w) = rep (opp w) (n + 1)
    rw [opp_app, opp_rep w n, rep_front]
theorem flat_rep (w : List Int) : ∀ n, (List.replicate n w).flatten = rep w n
  | 0 => rfl
  | n + 1 => by
    rw [List.replicate_succ, List.flatten_cons, flat_rep w n, rep_front]
/-- the power of a word for a number of any sign, not yet bare -/
def pw (w : List Int) (m : Int) : List Int := if m < 0 then rep (opp w) (-m).toNat else rep w m.toNat
theorem pw_succ (w : List Int) (m : Int) {s : List Int} (h : Nf s) : act (pw w (m + 1)) s = act w (act (pw w m) s) := by
  unfold pw
  by_cases h0 : m < 0
  · rw [if_pos h0]
    obtain ⟨k, hk⟩ : ∃ k : Nat, (-m).toNat = k + 1 := ⟨(-m).toNat - 1, by omega⟩
    rw [hk]
    show _ = act w (act (rep (opp w) k ++ opp w) s)
    rw [act_app, opp_act w (act_nf _ h)]
    by_cases h1 : m + 1 < 0
    · rw [if_pos h1]
      have : (-(m + 1)).toNat = k := by omega
      rw [this]
    · rw [if_neg h1]
      have e1 : (m + 1).toNat = 0 := by omega
      have e2 : k = 0 := by omega
      rw [e1, e2]
      rfl
  · rw [if_neg h0, if_neg (by omega : ¬ m + 1 < 0)]
    have : (m + 1).toNat = m.toNat + 1 := by omega
    rw [this]
    show act (rep w m.toNat ++ w) s = _
    rw [act_app]
theorem pw_add (w : List Int) (m : Int) : ∀ (n : Nat) {s : List Int}, Nf s → act (pw w (m + n)) s = act (rep w n) (act (pw w m) s)
  | 0, s, h => by
    have : m + ((0 : Nat) : Int) = m := by omega
    rw [this]
    rfl
  | n + 1, s, h => by
    have : m + ((n + 1 : Nat) : Int) = (m + n) + 1 := by omega
    rw [this, pw_succ w (m + n) h, pw_add w m n h]
    show _ = act (rep w n ++ w) _
    rw [act_app]
theorem red_pw_add (w : List Int) (m : Int) (n : Nat) : red (pw w (m + n)) = red (red (pw w m) ++ red (pw w (n : Int))) := by
  rw [red_app_l, red_app_r]
  refine red_congr ?_
  rw [pw_add w m n (s := []) True.intro, act_app]
  unfold pw
  rw [if_neg (by omega : ¬ (n : Int) < 0), Int.toNat_natCast]
theorem nf_join : ∀ {a b : List Int}, Nf a → Nf b → (∀ x y, a.getLast? = some x → b.head? = some y → x ≠ -y) → Nf (a ++ b)
  | [], _, _, hb, _ => hb
  | [x], [], _, _, _ => True.intro
  | [x], y :: b, _, hb, h => ⟨h x y rfl rfl, hb⟩
  | x :: z :: a, b, ha, hb, h => ⟨ha.1, nf_join (a := z :: a) ha.2 hb fun u v hu hv => h u v (by rw [List.getLast?_cons_cons]; exact hu) hv⟩
theorem last_rep {w : List Int} {x : Int} (h : w.getLast? = some x) (n : Nat) : (rep w (n + 1)).getLast? = some x := by
  show (rep w n ++ w).getLast? = some x
  rw [List.getLast?_append, h]
  rfl
theorem head_rep {w : List Int} {x : Int} (h : w.head? = some x) (n : Nat) : (rep w (n + 1)).head? = some x := by
  rw [rep_front, List.head?_append, h]
  rfl
theorem nf_rep {w : List Int} (h : Nf w) (hj : ∀ x y, w.getLast? = some x → w.head? = some y → x ≠ -y) : ∀ n, Nf (rep w n)
  | 0 => True.intro
  | n + 1 => by
    show Nf (rep w n ++ w)
    refine nf_join (nf_rep h hj n) h fun x y hx hy => ?_
    cases n with
    | zero => cases hx
    | succ n =>
      cases q : w.getLast? with
      | none =>
        have : w = [] := List.getLast?_eq_none_iff.mp q
        rw [this] at hy
        cases hy
      | some z =>
        rw [last_rep q n] at hx
        cases hx
        exact hj x y q hy
/-- a bare word in its two parts: its power as the program writes it -/
theorem red_pow {c m : List Int} (h : Nf (c ++ m ++ opp c)) (hm : m ≠ []) (hj : ∀ x y, m.getLast? = some x → m.head? = some y → x ≠ -y) (n : Nat) :
    red (rep (c ++ m ++ opp c) (n + 1)) = c ++ rep m (n + 1) ++ opp c := by
  have a1 : ∀ (n : Nat) {s : List Int}, Nf s → act (rep (c ++ m ++ opp c) n) s = act (c ++ rep m n ++ opp c) s := fun n => by
    induction n with
    | zero =>
      intro s hs
      show s = act (c ++ [] ++ opp c) s
      rw [List.append_nil, act_app, act_opp c hs]
    | succ n ih =>
      intro s hs
      show act (rep (c ++ m ++ opp c) n ++ (c ++ m ++ opp c)) s = act (c ++ (rep m n ++ m) ++ opp c) s
      rw [act_app, ih hs]
      simp only [act_app]
      rw [opp_act c (act_nf _ (act_nf _ hs))]
  have e : red (rep (c ++ m ++ opp c) (n + 1)) = red (c ++ rep m (n + 1) ++ opp c) := red_congr (a1 (n + 1) (s := []) True.intro)
  rw [e]
  refine red_id ?_
  have hcm : Nf (c ++ m) := nf_front h
  have hm1 : Nf m := nf_back hcm
  obtain ⟨z, hz⟩ : ∃ z, m.getLast? = some z := by
    cases q : m.getLast? with
    | none => exact absurd (List.getLast?_eq_none_iff.mp q) hm
    | some z => exact ⟨z, rfl⟩
  obtain ⟨u, hu⟩ : ∃ u, m.head? = some u := by
    cases m with
    | nil => exact absurd rfl hm
    | cons a b => exact ⟨a, rfl⟩
  have jn : ∀ {a b : List Int} {x y : Int}, Nf (a ++ b) → a.getLast? = some x → b.head? = some y → x ≠ -y := fun {a b x y} hab hx hy => by
    obtain ⟨a', ha⟩ : ∃ a', a = a' ++ [x] := by
      have hne : a ≠ [] := fun q => by rw [q] at hx; cases hx
      refine ⟨a.dropLast, ?_⟩
      rw [List.getLast?_eq_some_getLast hne] at hx
      have := List.dropLast_concat_getLast hne
      rw [Option.some.inj hx] at this
      exact this.symm
    obtain ⟨b', hb⟩ : ∃ b', b = y :: b' := by
      cases b with
      | nil => cases hy
      | cons p q => cases hy; exact ⟨q, rfl⟩
    rw [ha, hb, List.append_assoc] at hab
    have h2 : Nf ([x] ++ y :: b') := nf_back hab
    exact h2.1
  refine nf_join (nf_join (nf_front hcm) (nf_rep hm1 hj (n + 1)) fun x y hx hy => ?_) (nf_back h) fun x y hx hy => ?_
  · rw [head_rep hu n] at hy
    cases hy
    exact jn hcm hx hu
  · rw [List.getLast?_append, last_rep hz n] at hx
    cases hx
    exact jn h (by rw [List.getLast?_append, hz]; rfl) hy
end Fr

/-! rules of my own: a call by a positional promise, great powers, a tuple times a number, a tuple turned round -/
namespace N0
open PySem PySem.Spec PyProof.Rows L2 HT

structure Cl (P : Program) (w : World) (K : PySem.W.Frag) (mg : Str → Option Value) (base : Heap) (k : Nat) (x : Str) (sp : Sp) : Prop where
  ex : ∃ f : Addr, FnR P w K mg base CX0 k f sp ∧ mg x = some (.ref f) ∧ PySem.W.keepIn K (.ref f) = true
abbrev tFn (sp : Sp) (t : TA) : TE := fun σ H Q => t σ H fun vs H1 => sp vs H1 Q E0
section
variable {X : Cx} {x : Str} {k j : Nat} {sp : Sp} {e : Expr} {es : List Expr} {t : TA} {p pos : Pos}
theorem pe_f (c : Cl X.prog X.w X.K X.mg X.base k x sp) (hr : Room j X.A) (hk : k ≤ j) (hg : Gl X x) (ha : PA X (e :: es) t) (hdb : (x == ("__debug__" : Str)) = false := by decide)
    (he : starEach (e :: es) X.env = (false, eval e X.env) :: starEach es X.env := by rfl) (hpl : (backTo pos (starEach es X.env)).any (·.1) = false := by rfl) : PE X (.Call (.Name x p) (e :: es) [] pos) (tFn sp t) := by
  obtain ⟨f, F, hm, kp⟩ := c.ex
  refine ⟨fun pins s σ H Q I h => ?_⟩
  refine wpAny_Call_Name_kw (ld_glob I hg hm ?_ hdb)
  refine PySem.W.callWith_K (h₀ := X.base) I.ok.mod.kin kp (thn (ha.run pos pins s σ H _ I h) fun us s1 ⟨vs, H1, I1, r, q⟩ => ⟨I1.kIn, ?_⟩) he hpl
  exact wpAny_call (run_fnR F (hr.mono hk) pass0 I1 r q)
end
section
variable {P : Program} {w : World} {K : PySem.W.Frag} {mg : Str → Option Value} {base : Heap} {k : Nat} {x : Str} {sp sp' : Sp} {f : Addr} {fd : FuncData} {ps : List Str}
theorem cl_of (G : FnOk P w K mg base CX0 k f fd ps sp) (hm : mg x = some (.ref f)) (kp : PySem.W.keepIn K (.ref f) = true) (hb : Binds K fd ps []) : Cl P w K mg base k x sp :=
  ⟨f, (G.raw hb .nil).imp fun vs H Q E h => by rw [List.append_nil]; exact h, hm, kp⟩
theorem Cl.imp (c : Cl P w K mg base k x sp) (h : ∀ vs H Q E, sp' vs H Q E → sp vs H Q E) : Cl P w K mg base k x sp' := by
  obtain ⟨f, F, hm, kp⟩ := c.ex
  exact ⟨f, F.imp h, hm, kp⟩
end
def CPowG (i j : Int) : Prop := 0 ≤ j ∧ (Builtin.Int.intBits i : Int) * j ≤ 2 ^ 27
section
variable {X : Cx}
theorem op_powG : OpR X (binaryOp .Pow) (rI CPowG fun i j => .int (i ^ j.toNat)) := opI fun _ _ _ _ _ _ _ hc q => PyProof.Rows.pow_int hc.1 hc.2 q

/-! a tuple turned round -/
theorem pick_back (xs : Array Value) : ((List.range xs.size).filterMap fun (m : Nat) => xs[(((xs.size : Int) - 1) + (m : Int) * (-1)).toNat]?).toArray = xs.toList.reverse.toArray := by
  congr 1
  have h : ∀ m ∈ List.range xs.size, xs[(((xs.size : Int) - 1) + (m : Int) * (-1)).toNat]? = some (xs.toList.reverse.getD m .none) := fun m hm => by
    have hm := List.mem_range.mp hm
    have e : (((xs.size : Int) - 1) + (m : Int) * (-1)).toNat = xs.size - 1 - m := by omega
    rw [e, List.getD_eq_getElem?_getD, List.getElem?_reverse (by rw [Array.length_toList]; exact hm), Array.length_toList, Array.getElem?_toList, Array.getElem?_eq_getElem (by omega)]
    rfl
  have h2 : ∀ l : List Nat, (∀ m ∈ l, xs[(((xs.size : Int) - 1) + (m : Int) * (-1)).toNat]? = some (xs.toList.reverse.getD m .none)) → l.filterMap (fun (m : Nat) => xs[(((xs.size : Int) - 1) + (m : Int) * (-1)).toNat]?) = l.map fun m => xs.toList.reverse.getD m .none := fun l => by
    induction l with
    | nil => intro _; rfl
    | cons a l ih => intro hl; rw [List.filterMap_cons, hl a List.mem_cons_self, List.map_cons, ih fun m hm => hl m (List.mem_cons_of_mem _ hm)]
  rw [h2 _ h]
  refine List.ext_getElem? fun i => ?_
  rw [List.getElem?_map]
  by_cases hi : i < xs.size
  · rw [List.getElem?_range hi]
    show some (xs.toList.reverse.getD i .none) = _
    rw [List.getD_eq_getElem?_getD, List.getElem?_eq_getElem (by rw [List.length_reverse, Array.length_toList]; exact hi)]
    rfl
  · rw [List.getElem?_eq_none (by rw [List.length_range]; omega), List.getElem?_eq_none (by rw [List.length_reverse, Array.length_toList]; omega)]
    rfl
theorem back_applied {prog : Program} {w : World} {A : Around} {E : Value → Shared → Prop} {s : Shared} {sl : Addr} {vs : Value} {n : Nat} {Q : Int × Int × Nat → Shared → Prop} (hs : s.heap.IsSliceOf sl .none .none vs) (pv : IsPart vs (some (-1)))
    (h : Q (((n : Int) - 1), -1, n) s) : wpAny (model prog w) A (Builtin.Slice.sliceApplied (.ref sl) (pure (n : Int))) Q E s := by
  obtain ⟨os, ho, hcl, hda⟩ := id hs
  unfold Builtin.Slice.sliceApplied Builtin.Slice.sliceFields
  refine wpAny_bind (wpAny_bind (wpAny_field ho hda (x := .none) rfl (wpAny_bind (wpAny_field ho hda (x := .none) rfl (wpAny_bind (wpAny_field ho hda (x := vs) rfl (wpAny_pure ?_)))))))
  refine wpAny_bind (slicePart_ pv ?_)
  show wpAny _ _ (if ((-1 : Int) == 0) = true then _ else _) _ _ s
  rw [if_neg (by decide)]
  refine wpAny_bind (slicePart_none (wpAny_bind (slicePart_none (wpAny_bind (wpAny_pure ?_)))))
  have e1 : Builtin.Slice.sliceAdjust none none (-1) (n : Int) = ((n : Int) - 1, -1) := by
    unfold Builtin.Slice.sliceAdjust
    simp
  have e2 : Builtin.Slice.slicePlaces ((n : Int) - 1) (-1) (-1) = n := by
    unfold Builtin.Slice.slicePlaces
    simp
    omega
  show wpAny _ _ (match Builtin.Slice.sliceAdjust none none (-1) (n : Int) with | (a, b) => pure (a, (-1 : Int), Builtin.Slice.slicePlaces a b (-1))) _ _ s
  rw [e1]
  show wpAny _ _ (pure ((n : Int) - 1, (-1 : Int), Builtin.Slice.slicePlaces ((n : Int) - 1) (-1) (-1))) _ _ s
  rw [e2]
  exact wpAny_pure h
/-- t * k where t is empty or k is 1: t itself -/
theorem tup_mul_same (l : Addr) (items : Array Value) (n : Nat) (dd : Option Addr) (sl : Array (Option Value)) (x : Int) (u : Tok) (z0 : (decide (x < -(2 ^ 63)) || decide (x ≥ 2 ^ 63)) = false) (z1 : (items.isEmpty || x == 1) = true) :
    Meets (Builtin.«tuple.__mul__» ⟨[.ref l, .int x u], []⟩) (fun _ R s => s.heap.get? l = some { cls := .type "tuple", dict := dd, data := .seq items n, slots := sl } ∧ R (.ok (.ret (Value.ref l))) s) :=
  .of_wp fun prog w A R s h => by
    obtain ⟨hp, g, d, tk, os⟩ := s
    obtain ⟨hl, h⟩ := h
    have f1 := AutoSeq1.idx_int
    wp_walk using wpAny_loadPart' hl
    repeat (first
      | (refine wpAny_ite_false (decide_eq_false (by rw [z0]; exact Bool.false_ne_true)) ?_; wp_walk using wpAny_loadPart' hl)
      | (refine wpAny_ite_true (decide_eq_true z1) ?_; wp_walk using wpAny_loadPart' hl))
    exact ⟨_, rfl, h⟩
/-- t * k, k from 1 to 1000, t any tuple of at most 1000 -/
def rRepA (K : PySem.W.Frag) : R2 := fun x y H Q => ∃ l k xs, x = .ref l ∧ y = .int k ∧ SqT K H l xs ∧ 1 ≤ k ∧ k ≤ 1000 ∧ xs.length ≤ 1000 ∧
  (xs = [] ∨ k = 1 → Q (.ref l) H) ∧ (xs ≠ [] → 2 ≤ k → ∀ p, H p = none → Q (.ref p) (upd H p (.tup (List.replicate k.toNat xs).flatten)))
theorem op_repA : OpR X (binaryOp .Mult) (rRepA X.K) := by
  intro pn s sg H x y v u Q I rx ry h
  obtain ⟨l, k, xs, ex, ey, hT, k1, k2, hz, q1, q2⟩ := h
  by_cases hc : xs = [] ∨ k = 1
  · subst ex ey
    have q := q1 hc
    cases rx
    obtain ⟨t, rfl⟩ := ry
    obtain ⟨its, r, ⟨⟨cls, dd, data, sl⟩, ho, hcl, n, hd⟩, _⟩ := I.tuple hT
    simp only at hcl hd
    subst hcl hd
    have z0 : (decide (k < -(2 ^ 63)) || decide (k ≥ 2 ^ 63)) = false := by
      rw [decide_eq_false (by omega), decide_eq_false (by omega)] <;> rfl
    have z1 : (its.toArray.isEmpty || k == 1) = true := by
      rcases hc with e | e
      · subst e
        cases r
        rfl
      · rw [e, Bool.or_eq_true]
        exact .inr rfl
    exact wpAny_binaryOp_repeat_ref (T := "tuple") (U := "int") (by decide) ⟨_, ho, rfl⟩ (fun s' => typeIs_int s' k t) noFill_tuple_mul F.fills_int_mul F.slot_int_rmul repeat_tuple F.slot_int_index.lookup
      (call_meets F.slot_int_rmul (typeIs_int s k t) F.entry_int_rmul (F.args_int_rmul_2 _ _) (int_rmul_tuple k t l its.toArray n dd sl)
        ⟨ho, rfl, ⟨_, ho, rfl⟩, call_meets F.slot_tuple_mul ⟨_, ho, rfl⟩ F.entry_tuple_mul (F.args_tuple_mul_2 _ _) (tup_mul_same l its.toArray n dd sl k t z0 z1) ⟨ho, ⟨.ref l, H, I, rfl, q⟩⟩⟩)
  · have hn : xs ≠ [] := fun e => hc (.inl e)
    have h2 : k ≠ 1 := fun e => hc (.inr e)
    exact op_repT pn s sg H x y v u Q I rx ry ⟨l, k, xs, ex, ey, hT, hn, by omega, k2, hz, q2 hn (by omega)⟩

/-! t[::-1] -/
theorem tup_back {prog : Program} {w : World} {A : Around} {E : Value → Shared → Prop} {s : Shared} {t sl : Addr} {items : Array Value} {vs : Value} {Q : Value → Shared → Prop} (ht : IsTup s.heap t items) (hs : s.heap.IsSliceOf sl .none .none vs) (pv : IsPart vs (some (-1)))
    (h : Q (.ref s.heap.objs.size) { s with heap := s.heap.push { cls := .type "tuple", data := .seq items.toList.reverse.toArray } }) (hz : items.size ≤ sizeLine) : wpAny (model prog w) A (getItem (.ref t) (.ref sl)) Q E s := by
  have fit : sizeOk (.seq items.toList.reverse.toArray) := by
    show items.toList.reverse.toArray.size ≤ sizeLine
    rw [List.size_toArray, List.length_reverse, Array.length_toList]
    exact hz
  obtain ⟨os, ho, hcl, hda⟩ := id hs
  have hTy : s.TypeIs (.ref sl) "slice" := ⟨os, ho, hcl⟩
  unfold getItem
  try with_reducible refine wpAny_holding ?_
  first | refine wpAny_bind (wpAny_pure ?_) | skip
  refine wpAny_bind (wpAny_sequenceKey ht.typeIs (by decide) ?_)
  refine wpAny_bind (wpAny_callSpecial?_slot (name := Str.ofString "__getitem__") ht.typeIs PyProof.Rows.slot_tuple_getitem (wpAny_call_entry PyProof.Rows.slot_tuple_getitem ht.typeIs entry_tuple_getitem ?_ (args_tuple_getitem _ _)))
  show wpAny _ _ (Builtin.Tuple.tupleItemsOf (.ref t) >>= _) _ _ s
  refine wpAny_bind (tupleItemsOf_ ht (wpAny_bind (wpAny_typeOf hTy ?_)))
  rw [if_pos (by decide)]
  refine wpAny_bind (back_applied hs pv ?_)
  have hno : ¬ ((((items.size : Int) - 1) == 0 && (-1 : Int) == 1 && items.size == items.size) = true) := by
    rw [show ((-1 : Int) == 1) = false from rfl, Bool.and_false, Bool.false_and]
    exact Bool.false_ne_true
  show wpAny _ _ (if (((items.size : Int) - 1) == 0 && (-1 : Int) == 1 && items.size == items.size) = true then _ else _) _ _ s
  rw [if_neg hno, pick_back]
  first
    | exact wpAny_bind (m := Builtin.Tuple.tupleExact _) (wpAny_newObj_type (wpAny_pure ⟨_, rfl, wpAny_pure h⟩) fit)
    | exact wpAny_bind (m := Builtin.Tuple.tupleExact _) (wpAny_newObj_type (wpAny_bind (wpAny_pure (wpAny_pure ⟨_, rfl, wpAny_pure h⟩))) fit)
    | exact wpAny_bind (wpAny_bind (m := Builtin.Tuple.tupleExact _) (wpAny_newObj_type (wpAny_pure (wpAny_pure ⟨_, rfl, wpAny_pure h⟩)) fit))
    | exact wpAny_bind (wpAny_bind (m := Builtin.Tuple.tupleExact _) (wpAny_newObj_type (wpAny_pure ⟨_, rfl, wpAny_pure h⟩) fit))
def tRevT (K : PySem.W.Frag) (te : TE) : TE := fun σ H Q => te σ H fun x H1 => ∃ a xs, x = .ref a ∧ SqT K H1 a xs ∧ ∀ p, H1 p = none → Q (.ref p) (upd H1 p (.tup xs.reverse))
theorem pe_revT {e : Expr} {te : TE} {k : Nat} {p1 p2 p3 pos : Pos} (he : PE X e te) : PE X (.Subscript e (.Slice none none (some (.UnaryOp .USub (.Constant (.int 1) k p1) p2)) p3) pos) (tRevT X.K te) := by
  refine ⟨fun pn s sg H Q I h => ?_⟩
  refine Subscript_ (thn (he.run pn s sg H _ I h) fun v s1 ⟨x, H1, I1, r1, q1⟩ => ?_)
  obtain ⟨a, xs, ex, hx, q⟩ := q1
  subst ex
  cases r1
  have hst : PO X (some (.UnaryOp .USub (.Constant (.int 1) k p1) p2)) (tPart (tUn (rU fun i => .int (-i)) (tC (.int 1)))) := po_some (pe_un un_neg pe_int)
  refine wpAny_Slice (thn (po_none.run pn s1 sg H1 (fun o H2 => o = none ∧ H2 = H1) I1 ⟨rfl, rfl⟩) fun vl s2 ⟨l, H2, I2, pl, el, e2⟩ => ?_)
  subst el e2
  refine thn (po_none.run pn s2 sg H2 (fun o H3 => o = none ∧ H3 = H2) I2 ⟨rfl, rfl⟩) fun vu s3 ⟨u, H3, I3, pu, eu, e3⟩ => ?_
  subst eu e3
  refine thn (hst.run pn s3 sg H3 (fun o H4 => o = some (-1) ∧ H4 = H3) I3 ⟨1, rfl, -1, rfl, rfl, rfl⟩) fun vs s4 ⟨o, H4, I4, ps, eo, e4⟩ => ?_
  subst eo e4
  cases pl
  cases pu
  have I5 : Inv X pn sg H4 { s4 with heap := s4.heap.push { cls := .type "slice", data := .fields #[.none, .none, vs] } } := I4.kept (t' := s4.toks) fun b ob q => Heap.get?_push_of_some _ q
  obtain ⟨its, r, ht, hz⟩ := I5.tuple hx
  have hlen := r.length
  show wpAny (model X.prog X.w) X.A (subscriptTail e (.Slice none none (some (.UnaryOp .USub (.Constant (.int 1) k p1) p2)) p3) (.ref a) (.ref s4.heap.objs.size)) (EP X pn sg Q) X.xe { s4 with heap := s4.heap.push { cls := .type "slice", data := .fields #[.none, .none, vs] } }
  refine tail_any (ops := [.ref a, .ref s4.heap.objs.size]) ht.typeIs (PyProof.Rows.slot_tuple_getitem.lookup) ?_ (by with_unfolding_all rfl)
  refine tup_back ht (Heap.IsSliceOf.new _ .none .none vs) ps ?_ (by rw [List.size_toArray]; omega)
  refine ⟨.ref _, _, I5.laid (t' := s4.toks) (o := .tup xs.reverse) (fun b ob q => Heap.get?_push_of_some _ q) (Nat.le_refl _) ?_, rfl, q _ (I5.hok.fresh (Nat.le_refl _))⟩
  exact ⟨by rw [List.length_reverse]; exact hz, _, r.reverse, IsTup.new _ _⟩
end
end N0
namespace N0
open PySem
theorem bo_len : bootBuiltins "len" = some (.builtin "len") := by decide +kernel
theorem bo_abs : bootBuiltins "abs" = some (.builtin "abs") := by decide +kernel
theorem bo_max : bootBuiltins "max" = some (.builtin "max") := by decide +kernel
theorem bo_min : bootBuiltins "min" = some (.builtin "min") := by decide +kernel
theorem bo_all : bootBuiltins "all" = some (.builtin "all") := by decide +kernel
theorem bo_any : bootBuiltins "any" = some (.builtin "any") := by decide +kernel
theorem bo_sum : bootBuiltins "sum" = some (.builtin "sum") := by decide +kernel
theorem bo_isinstance : bootBuiltins "isinstance" = some (.builtin "isinstance") := by decide +kernel
theorem bo_int : bootBuiltins "int" = some (.type "int") := by decide +kernel
theorem bo_bool : bootBuiltins "bool" = some (.type "bool") := by decide +kernel
theorem bo_str : bootBuiltins "str" = some (.type "str") := by decide +kernel
theorem bo_list : bootBuiltins "list" = some (.type "list") := by decide +kernel
theorem bo_tuple : bootBuiltins "tuple" = some (.type "tuple") := by decide +kernel
end N0
namespace N0
open PySem PySem.Spec PyProof.Rows L2 HT
/-! the rules over the written part, this one said by name -/
theorem rel_ty {n : String} : RelV (.ty n) (.type n) := rfl
theorem rel_int {i : Int} {t : Tok} : RelV (.int i) (.int i t) := ⟨_, rfl⟩
section
variable {X : Cx} {K : PySem.W.Frag}
theorem kix_tup (h : X.K = K := by rfl) : IxR X (rIxT K) := h ▸ ix_tup
theorem kix_list (h : X.K = K := by rfl) : IxR X (rIxL K) := h ▸ ix_list
theorem ksl_tupA (h : X.K = K := by rfl) : SlR X (rSlA K) := h ▸ sl_tupA
theorem ksl_list (h : X.K = K := by rfl) : SlR X (rSlL K) := h ▸ sl_list
theorem kop_catA (h : X.K = K := by rfl) : OpR X (binaryOp .Add) (rCatA K) := h ▸ op_catA
theorem kop_repA (h : X.K = K := by rfl) : OpR X (binaryOp .Mult) (rRepA K) := h ▸ op_repA
theorem kop_eqD (hu : X.A.units + 64 < cLine) (h : X.K = K := by rfl) : OpR X (compareOp .Eq) (rEqD K) := h ▸ op_eqD hu
theorem kop_neD (hu : X.A.units + 64 < cLine) (h : X.K = K := by rfl) : OpR X (compareOp .NotEq) (rNeD K) := h ▸ op_neD hu
theorem kcall_isi (h : X.K = K := by rfl) : CallR X (.builtin "isinstance") (rIsi K) := h ▸ call_isi
theorem kcr_all (hc : X.calm = true) (h : X.K = K := by rfl) : CallR X (.builtin "all") (rAll K) := h ▸ cr_all hc
theorem kcr_any (hc : X.calm = true) (h : X.K = K := by rfl) : CallR X (.builtin "any") (rAny K) := h ▸ cr_any hc
theorem kcr_sum (hc : X.calm = true) (h : X.K = K := by rfl) : CallR X (.builtin "sum") (rSum K) := h ▸ cr_sum hc
theorem kcr_min (hc : X.calm = true) (h : X.K = K := by rfl) : CallR X (.builtin "min") (rMin K) := h ▸ cr_min hc
def rLen (K : PySem.W.Frag) : List V → Hp → VK → Prop := fun xs H Q => ∃ p ys, xs = [.ref p] ∧ (SqL K H p ys ∨ SqT K H p ys) ∧ Q (.int ys.length) H
theorem kcall_len (h : X.K = K := by rfl) : CallR X (.builtin "len") (rLen K) := h ▸ call_len_seq
def rListOf (K : PySem.W.Frag) : List V → Hp → VK → Prop := fun xs H Q => ∃ p ys, xs = [.ref p] ∧ (SqL K H p ys ∨ SqT K H p ys) ∧ ∀ l, H l = none → Q (.ref l) (upd H l (.lst ys))
theorem kcall_list (h : X.K = K := by rfl) : CallR X (.type "list") (rListOf K) := h ▸ call_list_of
def rTupOf (K : PySem.W.Frag) : List V → Hp → VK → Prop := fun xs H Q => ∃ p ys, xs = [.ref p] ∧ ((SqL K H p ys ∧ ∀ l, H l = none → Q (.ref l) (upd H l (.tup ys))) ∨ (SqT K H p ys ∧ Q (.ref p) H))
theorem kcall_tuple (h : X.K = K := by rfl) : CallR X (.type "tuple") (rTupOf K) := h ▸ call_tuple_of
variable {tg l : Expr} {tl : TE}
theorem kpi_list (hl : PE X l tl) (h : X.K = K := by rfl) : PI X tg l (iList K tl) := h ▸ pi_list hl
theorem kpi_tup (hl : PE X l tl) (h : X.K = K := by rfl) : PI X tg l (iTup K tl) := h ▸ pi_tup hl
theorem kpt_truth {a : Expr} {ta : TE} (ha : PE X a ta) (he : ∀ whole, isTrue a X.env whole = (do let v ← whole; standAt a.pos; holding [v] (truthy v))) (h : X.K = K := by rfl) :
    PT X a (fun σ H Q => ta σ H fun x H' => ∃ k, TruV K x H' k ∧ Q k H') := h ▸ pt_truth ha he
theorem kpe_revT {e : Expr} {te : TE} {k : Nat} {p1 p2 p3 pos : Pos} (he : PE X e te) (h : X.K = K := by rfl) : PE X (.Subscript e (.Slice none none (some (.UnaryOp .USub (.Constant (.int 1) k p1) p2)) p3) pos) (tRevT K te) := h ▸ pe_revT he
theorem kpg_tup {es : List Expr} {k : Nat} {t : TGs} {n : Nat} {pos : Pos} (hc : X.calm = true) (hh : PGs X es t) (h : X.K = K := by rfl)
    (hn : (assignEach es X.env).length = n := by rfl) (hst : (assignEach es X.env).findIdx? (·.1) = none := by rfl) : PG X (.Tuple es k pos) (gTup K n t) := h ▸ pg_tup hc hh hn hst
end
end N0

namespace N0
open PySem PySem.Spec PyProof.Rows L2 HT
/-! ### what stays: all but a sack of three numbers -/
def Sk (H : Hp) : Option Addr → Prop
  | none => True
  | some s => ∃ a b c : Int, H s = some (.lst [.int a, .int b, .int c])
structure Rs (S : Option Addr) (H H' : Hp) : Prop where
  s0 : Sk H S
  s1 : Sk H' S
  keep : ∀ a o, S ≠ some a → H a = some o → H' a = some o
section
variable {S : Option Addr} {H H1 H2 : Hp} {K : PySem.W.Frag} {a p : Addr} {xs : List V} {o : HO}
theorem Rs.of (h : Sk H S) : Rs S H H := ⟨h, h, fun _ _ _ e => e⟩
theorem Rs.r1 (r : Rs S H H1) : Rs S H1 H1 := .of r.s1
theorem Rs.tr (r : Rs S H H1) (q : Rs S H1 H2) : Rs S H H2 := ⟨r.s0, q.s1, fun a o n e => q.keep a o n (r.keep a o n e)⟩
theorem Sk.same (h : Sk H S) (e : Same H H1) : Sk H1 S := by
  cases S with
  | none => exact True.intro
  | some s => obtain ⟨a, b, c, q⟩ := h; exact ⟨a, b, c, e _ _ q⟩
theorem Rs.same (h : Sk H S) (e : Same H H1) : Rs S H H1 := ⟨h, h.same e, fun a o _ q => e a o q⟩
theorem Rs.to (r : Rs none H H1) : Same H H1 := fun a o e => r.keep a o (fun q => nomatch q) e
theorem Sk.ne (r : Sk H S) (h : H a = some o) (hn : ∀ ys, o ≠ .lst ys) : S ≠ some a := fun q => by
  subst q
  obtain ⟨x, y, z, e⟩ := r
  rw [h] at e
  cases e
  exact hn _ rfl
theorem Rs.tup (r : Rs S H H1) (h : SqT K H a xs) : SqT K H1 a xs := by
  rcases h with (h | ⟨o, h⟩) | h
  · exact .inl (.inl (r.keep _ _ (r.s0.ne h fun _ q => nomatch q) h))
  · exact .inl (.inr ⟨o, r.keep _ _ (r.s0.ne h fun _ q => nomatch q) h⟩)
  · exact .inr h
theorem Rs.lst (r : Rs S H H1) (n : S ≠ some a) (h : SqL K H a xs) : SqL K H1 a xs := by
  rcases h with (h | ⟨o, h⟩) | h
  · exact .inl (.inl (r.keep _ _ n h))
  · exact .inl (.inr ⟨o, r.keep _ _ n h⟩)
  · exact .inr h
theorem new_same (hp : H p = none) : Same H (upd H p o) := fun b u e => by
  rw [upd_ne (ne_of_none e hp)]
  exact e
theorem same_tup (e : Same H H1) (h : SqT K H a xs) : SqT K H1 a xs := (Rs.same (S := none) True.intro e).tup h
/-- a thing that was not there may change -/
theorem same_mut (e : Same H H1) (hp : H p = none) : Same H (upd H1 p o) := fun b u q => by
  rw [upd_ne (ne_of_none q hp)]
  exact e b u q
theorem tup_of (h : H a = some (.tup xs)) : SqT K H a xs := .inl (.inl h)
theorem lst_of (h : H a = some (.lst xs)) : SqL K H a xs := .inl (.inl h)
theorem Rs.fresh (r : Rs S H H1) (hp : H1 p = none) (h0 : H p = none ∨ S = some p ∨ True) : S ≠ some p := fun q => by
  subst q
  obtain ⟨x, y, z, e⟩ := r.s1
  rw [hp] at e
  cases e
end

/-! ### kinds of values -/
/-- an entry of a tuple: a number, or something else -/
inductive En (K : PySem.W.Frag) (H : Hp) : V → Option Int → Prop
  | int (i : Int) : En K H (.int i) (some i)
  | oth {v : V} {t : String} {i b : Bool} (h : TyX K H v (.type t)) (k1 : kitB t "int" = some i) (k2 : kitB t "bool" = some b) (k3 : (i && !b) = false) : En K H v none
/-- a value: a tuple of entries, or something else -/
inductive Va (K : PySem.W.Frag) (H : Hp) : V → Option (List (Option Int)) → Prop
  | tup {a : Addr} {xs : List V} {os : List (Option Int)} (h : SqT K H a xs) (hl : xs.length = os.length) (he : ∀ (j : Nat) x o, xs[j]? = some x → os[j]? = some o → En K H x o) : Va K H (.ref a) (some os)
  | oth {v : V} {t : String} (h : TyX K H v (.type t)) (k : kitB t "tuple" = some false) : Va K H v none
section
variable {K : PySem.W.Frag} {H H1 : Hp}
theorem tyx_same {v : V} {t : Value} (e : Same H H1) (h : TyX K H v t) : TyX K H1 v t := by
  cases h with
  | base b =>
    refine .base ?_
    cases b with
    | non => exact .non
    | bl y => exact .bl y
    | int i => exact .int i
    | str y => exact .str y
    | flt y => exact .flt y
    | lst ea => exact .lst (e _ _ ea)
    | frz ea => exact .frz (e _ _ ea)
    | tup ea => exact .tup (e _ _ ea)
    | dK ea => exact .dK (e _ _ ea)
    | dT ea => exact .dT (e _ _ ea)
    | ins ea cl ha hn htk hm => exact .ins (e _ _ ea) cl ha hn htk hm
  | byt b => exact .byt b
  | set ea => exact .set (e _ _ ea)
  | kList ea c => exact .kList ea c
  | kTuple ea c => exact .kTuple ea c
  | kDict ea c => exact .kDict ea c
  | fTuple ea => exact .fTuple (e _ _ ea)
  | fDict ea => exact .fDict (e _ _ ea)
theorem En.same {v : V} {o : Option Int} (e : Same H H1) (h : En K H v o) : En K H1 v o := by
  cases h with
  | int i => exact .int i
  | oth h k1 k2 k3 => exact .oth (tyx_same e h) k1 k2 k3
theorem tyx_tup {a : Addr} {xs : List V} (h : SqT K H a xs) : TyX K H (.ref a) (.type "tuple") := by
  rcases h with (h | ⟨o, h⟩) | ⟨o, its, n, hk, hc, _⟩
  · exact .base (.tup h)
  · exact .fTuple h
  · exact .kTuple hk hc
/-- whether an entry is a letter or a contrary -/
def okE (n : Int) : Option Int → Bool
  | some i => decide (1 ≤ (if i < 0 then -i else i)) && decide ((if i < 0 then -i else i) ≤ n)
  | none => false
def intsOf : List (Option Int) → List Int
  | [] => []
  | some i :: r => i :: intsOf r
  | none :: r => intsOf r
/-- no entry beside its opposite, as the program asks it -/
def nfB (ns : List Int) : Bool := (List.range (ns.length - 1)).all fun j => !decide (ns.getD j 0 = - ns.getD (j + 1) 0)
def rowB (n m : Int) (os : List (Option Int)) : Bool := !decide (m < os.length) && os.all (okE n)
def bareB (n m : Int) (os : List (Option Int)) : Bool := rowB n m os && nfB (intsOf os)
theorem intsOf_some (ns : List Int) : intsOf (ns.map some) = ns := by
  induction ns with
  | nil => rfl
  | cons a l ih => show a :: intsOf (l.map some) = a :: l; rw [ih]
theorem all_some {n : Int} : ∀ {os : List (Option Int)}, os.all (okE n) = true → os = (intsOf os).map some
  | [], _ => rfl
  | some i :: r, h => by
    rw [List.all_cons, Bool.and_eq_true] at h
    show some i :: r = some i :: (intsOf r).map some
    rw [← all_some h.2]
  | none :: r, h => by
    rw [List.all_cons, Bool.and_eq_true] at h
    exact absurd h.1 Bool.false_ne_true
/-- a tuple of numbers as a value -/
theorem va_ints {a : Addr} {ns : List Int} (h : SqT K H a (ns.map V.int)) : Va K H (.ref a) (some (ns.map some)) := by
  refine .tup h (by rw [List.length_map, List.length_map]) fun j x o hx ho => ?_
  rw [List.getElem?_map] at hx ho
  cases q : ns[j]? with
  | none => rw [q] at hx; cases hx
  | some i =>
    rw [q] at hx ho
    cases hx
    cases ho
    exact .int i
theorem nfB_iff : ∀ {ns : List Int}, nfB ns = true ↔ Fr.Nf ns := by
  have key : ∀ ns : List Int, Fr.Nf ns ↔ ∀ j, j < ns.length - 1 → ns.getD j 0 ≠ - ns.getD (j + 1) 0 := fun ns => by
    induction ns with
    | nil => exact ⟨fun _ j hj => absurd hj (Nat.not_lt_zero _), fun _ => True.intro⟩
    | cons x t ih =>
      cases t with
      | nil => exact ⟨fun _ j hj => absurd hj (Nat.not_lt_zero _), fun _ => True.intro⟩
      | cons y t =>
        constructor
        · intro h j hj
          cases j with
          | zero => exact h.1
          | succ j =>
            have := (ih.mp h.2) j (by simp at hj ⊢; omega)
            exact this
        · intro h
          refine ⟨h 0 (by simp), ih.mpr fun j hj => ?_⟩
          exact h (j + 1) (by simp at hj ⊢; omega)
  intro ns
  rw [key ns]
  unfold nfB
  rw [List.all_eq_true]
  constructor
  · intro h j hj
    have := h j (List.mem_range.mpr hj)
    rw [Bool.not_eq_true'] at this
    exact of_decide_eq_false this
  · intro h j hj
    rw [Bool.not_eq_true']
    exact decide_eq_false (h j (List.mem_range.mp hj))
/-- letters and contraries of n letters -/
def Lt (n : Int) (ns : List Int) : Prop := ∀ i ∈ ns, i ≠ 0 ∧ -n ≤ i ∧ i ≤ n
/-- a word of n letters -/
structure Wd (n : Int) (ns : List Int) : Prop where
  lt : Lt n ns
  nf : Fr.Nf ns
theorem okE_lt {n : Int} {ns : List Int} (h : Lt n ns) : (ns.map some).all (okE n) = true := by
  rw [List.all_eq_true]
  intro o ho
  obtain ⟨i, hi, rfl⟩ := List.mem_map.mp ho
  obtain ⟨h0, h1, h2⟩ := h i hi
  show (decide _ && decide _) = true
  rw [Bool.and_eq_true]
  refine ⟨decide_eq_true ?_, decide_eq_true ?_⟩ <;> split <;> omega
theorem lt_okE {n : Int} {ns : List Int} (h : (ns.map some).all (okE n) = true) : Lt n ns := fun i hi => by
  have := List.all_eq_true.mp h (some i) (List.mem_map.mpr ⟨i, hi, rfl⟩)
  have h2 : (decide (1 ≤ (if i < 0 then -i else i)) && decide ((if i < 0 then -i else i) ≤ n)) = true := this
  rw [Bool.and_eq_true] at h2
  have a1 := of_decide_eq_true h2.1
  have a2 := of_decide_eq_true h2.2
  split at a1 <;> split at a2 <;> omega
theorem row_wd {n m : Int} {ns : List Int} (h : Lt n ns) (hm : (ns.length : Int) ≤ m) : rowB n m (ns.map some) = true := by
  unfold rowB
  rw [okE_lt h, List.length_map, Bool.and_true, Bool.not_eq_true']
  exact decide_eq_false (by omega)
theorem bare_wd {n m : Int} {ns : List Int} (h : Wd n ns) (hm : (ns.length : Int) ≤ m) : bareB n m (ns.map some) = true := by
  unfold bareB
  rw [row_wd h.lt hm, intsOf_some, nfB_iff.mpr h.nf]
  rfl
theorem lt_app {n : Int} {a b : List Int} (ha : Lt n a) (hb : Lt n b) : Lt n (a ++ b) := fun i hi => by
  rcases List.mem_append.mp hi with h | h
  · exact ha i h
  · exact hb i h
theorem lt_push {n e : Int} {s : List Int} (he : e ≠ 0 ∧ -n ≤ e ∧ e ≤ n) (hs : Lt n s) : Lt n (Fr.push e s) := by
  cases s with
  | nil => intro i hi; rw [List.mem_singleton.mp hi]; exact he
  | cons x t =>
    by_cases hx : x = -e
    · rw [Fr.push_eq hx]; exact fun i hi => hs i (List.mem_cons_of_mem _ hi)
    · rw [Fr.push_on hx]
      intro i hi
      rcases List.mem_cons.mp hi with h | h
      · rw [h]; exact he
      · exact hs i h
theorem lt_act {n : Int} : ∀ {w s : List Int}, Lt n w → Lt n s → Lt n (Fr.act w s)
  | [], _, _, hs => hs
  | e :: w, _, hw, hs => lt_act (w := w) (fun i hi => hw i (List.mem_cons_of_mem _ hi)) (lt_push (hw e List.mem_cons_self) hs)
theorem lt_rev {n : Int} {w : List Int} (h : Lt n w) : Lt n w.reverse := fun i hi => h i (List.mem_reverse.mp hi)
theorem lt_nil {n : Int} : Lt n [] := fun _ h => nomatch h
theorem wd_red {n : Int} {w : List Int} (h : Lt n w) : Wd n (Fr.red w) := ⟨lt_rev (lt_act h lt_nil), Fr.red_nf w⟩
theorem lt_opp {n : Int} {w : List Int} (h : Lt n w) : Lt n (Fr.opp w) := fun i hi => by
  unfold Fr.opp at hi
  obtain ⟨j, hj, e⟩ := List.mem_map.mp (List.mem_reverse.mp hi)
  have := h j hj
  omega
theorem len_push (e : Int) (s : List Int) : (Fr.push e s).length ≤ s.length + 1 := by
  cases s with
  | nil => exact Nat.le_refl _
  | cons x t =>
    by_cases hx : x = -e
    · rw [Fr.push_eq hx]; simp; omega
    · rw [Fr.push_on hx]; simp
theorem len_act : ∀ (w s : List Int), (Fr.act w s).length ≤ s.length + w.length
  | [], s => Nat.le_refl _
  | e :: w, s => by
    have h1 := len_act w (Fr.push e s)
    have h2 := len_push e s
    show (Fr.act w (Fr.push e s)).length ≤ _
    rw [List.length_cons]
    omega
theorem len_red (w : List Int) : (Fr.red w).length ≤ w.length := by
  have := len_act w []
  unfold Fr.red
  rw [List.length_reverse]
  simpa using this
end
/-! ### equality of tuples of numbers -/
theorem eqv_ints : ∀ a b : List Int, PyData.eqvAll (a.map PyData.int) (b.map PyData.int) = decide (a = b)
  | [], [] => rfl
  | [], _ :: _ => rfl
  | _ :: _, [] => rfl
  | x :: a, y :: b => by
    show (PyData.eqv (.int x) (.int y) && PyData.eqvAll (a.map PyData.int) (b.map PyData.int)) = _
    rw [eqv_ints a b]
    show ((x == y) && decide (a = b)) = decide (x :: a = y :: b)
    by_cases h : x = y
    · subst h
      by_cases h2 : a = b
      · subst h2; simp
      · simp [h2]
    · simp [h]
theorem eqv_tup (a b : List Int) : PyData.eqv (.tuple (a.map .int)) (.tuple (b.map .int)) = decide (a = b) := eqv_ints a b
theorem canLay_ints : ∀ a : List Int, PyData.canLayAll0 (a.map PyData.int) = true
  | [] => rfl
  | x :: a => by
    show (PyData.canLay0 (.int x) && PyData.canLayAll0 (a.map PyData.int)) = true
    rw [canLay_ints a]
    rfl
theorem dp_ints {K : PySem.W.Frag} {H : Hp} : ∀ ns : List Int, DpAll K H (ns.map V.int) (ns.map PyData.int)
  | [] => .nil
  | x :: a => .cons (.int x) (dp_ints a)
theorem dp_tup {K : PySem.W.Frag} {H : Hp} {a : Addr} {ns : List Int} (h : SqT K H a (ns.map V.int)) : Dp K H (.ref a) (.tuple (ns.map .int)) := .tup h (dp_ints ns)
end N0

namespace N0
open PySem PySem.Spec PyProof.Rows L2 HT
section
variable {K : PySem.W.Frag} {H : Hp} {a b : Addr} {ns ms : List Int} {Q : VK}
def cutI (ns : List Int) (lo hi : Option Int) : List Int := (ns.drop (sIx ns.length 0 lo)).take (sIx ns.length ns.length hi - sIx ns.length 0 lo)
theorem cut_map (ns : List Int) (lo hi : Option Int) : cutV (ns.map V.int) lo hi = (cutI ns lo hi).map V.int := by
  unfold cutV cutI
  rw [List.map_take, List.map_drop, List.length_map]
theorem sl_ints {lo hi : Option Int} (h : SqT K H a (ns.map V.int)) (k : ∀ H' p, Same H H' → SqT K H' p ((cutI ns lo hi).map V.int) → Q (.ref p) H') : rSlA K (.ref a) lo hi H Q := by
  refine ⟨a, _, rfl, h, fun hw => k _ _ (Same.refl _) ?_, fun _ p hp => k _ _ (new_same hp) (tup_of (by rw [upd_same, cut_map]))⟩
  rw [List.length_map] at hw
  unfold cutI
  rw [hw.1, hw.2, List.drop_zero, Nat.sub_zero, List.take_length]
  exact h
theorem cat_ints (h : SqT K H a (ns.map V.int)) (h2 : SqT K H b (ms.map V.int)) (hz : ns.length + ms.length ≤ 100000) (k : ∀ H' p, Same H H' → SqT K H' p ((ns ++ ms).map V.int) → Q (.ref p) H') : rCatA K (.ref a) (.ref b) H Q := by
  refine ⟨a, b, _, _, rfl, rfl, h, h2, ?_, fun e => k _ _ (Same.refl _) ?_, fun _ e => k _ _ (Same.refl _) ?_, fun _ _ p hp => k _ _ (new_same hp) (tup_of (by rw [upd_same, List.map_append]))⟩
  · rw [List.length_map, List.length_map]
    exact Nat.le_trans hz (by decide)
  · have : ns = [] := List.map_eq_nil_iff.mp e
    subst this
    exact h2
  · have : ms = [] := List.map_eq_nil_iff.mp e
    subst this
    rw [List.append_nil]
    exact h
theorem flat_map_rep (ns : List Int) : ∀ k : Nat, (List.replicate k (ns.map V.int)).flatten = (Fr.rep ns k).map V.int := fun k => by
  rw [← Fr.flat_rep, List.map_flatten, List.map_replicate]
theorem rep_ints {k : Int} (h : SqT K H a (ns.map V.int)) (k1 : 1 ≤ k) (k2 : k ≤ 1000) (hz : ns.length ≤ 1000) (q : ∀ H' p, Same H H' → SqT K H' p ((Fr.rep ns k.toNat).map V.int) → Q (.ref p) H') : rRepA K (.ref a) (.int k) H Q := by
  refine ⟨a, k, _, rfl, rfl, h, k1, k2, by rw [List.length_map]; exact hz, fun e => q _ _ (Same.refl _) ?_, fun _ _ p hp => q _ _ (new_same hp) (tup_of (by rw [upd_same, flat_map_rep]))⟩
  rcases e with e | e
  · have : ns = [] := List.map_eq_nil_iff.mp e
    subst this
    rw [Fr.rep_nil]
    exact h
  · subst e
    show SqT K H a ((Fr.rep ns 1).map V.int)
    exact h
theorem cutI_to (ns : List Int) (d : Nat) : cutI ns none (some (d : Int)) = ns.take d := by
  unfold cutI
  rw [sIx_none, sIx_nat, List.drop_zero, Nat.sub_zero]
  by_cases h : d ≤ ns.length
  · rw [Nat.min_eq_left h]
  · rw [Nat.min_eq_right (by omega), List.take_length, List.take_of_length_le (by omega)]
theorem cutI_from (ns : List Int) (d : Nat) : cutI ns (some (d : Int)) none = ns.drop d := by
  unfold cutI
  rw [sIx_none, sIx_nat]
  by_cases h : d ≤ ns.length
  · rw [Nat.min_eq_left h, List.take_of_length_le (by rw [List.length_drop]; omega)]
  · rw [Nat.min_eq_right (by omega), Nat.sub_self, List.take_zero, List.drop_of_length_le (by omega)]
theorem cutI_mid (ns : List Int) (d e : Nat) (he : e ≤ ns.length) (hd : d ≤ e) : cutI ns (some (d : Int)) (some (e : Int)) = (ns.drop d).take (e - d) := by
  unfold cutI
  rw [sIx_nat, sIx_nat, Nat.min_eq_left he, Nat.min_eq_left (by omega)]
end
theorem depth_ints : ∀ ns : List Int, PyData.depthAll (ns.map PyData.int) = 0
  | [] => rfl
  | x :: a => by
    show max (PyData.depth (.int x)) (PyData.depthAll (a.map PyData.int)) = 0
    rw [depth_ints a]
    rfl
theorem shaped_list (ns : List Int) : SeqAt.shaped (.list (ns.map .int)) = true := by
  unfold SeqAt.shaped
  rw [show PyData.canLay0 (.list (ns.map .int)) = PyData.canLayAll0 (ns.map .int) from rfl, canLay_ints, show PyData.depth (.list (ns.map .int)) = PyData.depthAll (ns.map .int) + 1 from rfl, depth_ints]
  rfl
theorem shaped_tup (ns : List Int) : SeqAt.shaped (.tuple (ns.map .int)) = true := by
  unfold SeqAt.shaped
  rw [show PyData.canLay0 (.tuple (ns.map .int)) = PyData.canLayAll0 (ns.map .int) from rfl, canLay_ints, show PyData.depth (.tuple (ns.map .int)) = PyData.depthAll (ns.map .int) + 1 from rfl, depth_ints]
  rfl
theorem eqv_list (a b : List Int) : PyData.eqv (.list (a.map .int)) (.list (b.map .int)) = decide (a = b) := eqv_ints a b
theorem dp_list {K : PySem.W.Frag} {H : Hp} {a : Addr} {ns : List Int} (h : SqL K H a (ns.map V.int)) : Dp K H (.ref a) (.list (ns.map .int)) := .lst h (dp_ints ns)
/-- two tuples of numbers compared -/
theorem ne_tup {K : PySem.W.Frag} {H : Hp} {a b : Addr} {ns ms : List Int} {Q : VK} (h : SqT K H a (ns.map V.int)) (h2 : SqT K H b (ms.map V.int)) (q : Q (.bl (!decide (ns = ms))) H) : rNeD K (.ref a) (.ref b) H Q :=
  ⟨_, _, dp_tup h, dp_tup h2, shaped_tup ns, shaped_tup ms, by rw [eqv_tup]; exact q⟩
theorem eq_tup {K : PySem.W.Frag} {H : Hp} {a b : Addr} {ns ms : List Int} {Q : VK} (h : SqT K H a (ns.map V.int)) (h2 : SqT K H b (ms.map V.int)) (q : Q (.bl (decide (ns = ms))) H) : rEqD K (.ref a) (.ref b) H Q :=
  ⟨_, _, dp_tup h, dp_tup h2, shaped_tup ns, shaped_tup ms, by rw [eqv_tup]; exact q⟩
theorem ne_list {K : PySem.W.Frag} {H : Hp} {a b : Addr} {ns ms : List Int} {Q : VK} (h : SqL K H a (ns.map V.int)) (h2 : SqL K H b (ms.map V.int)) (q : Q (.bl (!decide (ns = ms))) H) : rNeD K (.ref a) (.ref b) H Q :=
  ⟨_, _, dp_list h, dp_list h2, shaped_list ns, shaped_list ms, by rw [eqv_list]; exact q⟩
/-! the core by its two ends -/
def Pal (ns : List Int) (d : Nat) : Prop := 2 * d ≤ ns.length ∧ ∀ j, j < d → ns.getD j 0 = - ns.getD (ns.length - 1 - j) 0
theorem getD_of {ns : List Int} {j : Nat} (h : j < ns.length) : ns[j]? = some (ns.getD j 0) := by
  rw [List.getD_eq_getElem?_getD, List.getElem?_eq_getElem h]
  rfl
theorem pal_split {ns : List Int} {d : Nat} (h : Pal ns d) : ns = ns.take d ++ (ns.drop d).take (ns.length - d - d) ++ Fr.opp (ns.take d) := by
  obtain ⟨h1, h2⟩ := h
  have e : Fr.opp (ns.take d) = ns.drop (ns.length - d) := by
    refine List.ext_getElem? fun j => ?_
    by_cases hj : j < d
    · have a1 : (Fr.opp (ns.take d))[j]? = some (- ns.getD (d - 1 - j) 0) := by
        unfold Fr.opp
        rw [List.getElem?_reverse (by rw [List.length_map, List.length_take]; omega), List.length_map, List.length_take, Nat.min_eq_left (by omega), List.getElem?_map, List.getElem?_take, if_pos (by omega), getD_of (by omega)]
        rfl
      rw [a1, List.getElem?_drop, getD_of (by omega), h2 (d - 1 - j) (by omega), Int.neg_neg]
      have : ns.length - 1 - (d - 1 - j) = ns.length - d + j := by omega
      rw [this]
    · rw [List.getElem?_eq_none (by rw [Fr.opp_len, List.length_take]; omega), List.getElem?_eq_none (by rw [List.length_drop]; omega)]
  rw [e]
  have e2 : ns.drop d = (ns.drop d).take (ns.length - d - d) ++ ns.drop (ns.length - d) := by
    have := (List.take_append_drop (ns.length - d - d) (ns.drop d)).symm
    rw [List.drop_drop] at this
    have e3 : d + (ns.length - d - d) = ns.length - d := by omega
    rw [e3] at this
    exact this
  rw [List.append_assoc, ← e2, List.take_append_drop]
theorem nf_at : ∀ {ns : List Int}, Fr.Nf ns → ∀ j, j + 1 < ns.length → ns.getD j 0 ≠ - ns.getD (j + 1) 0
  | [], _, j, h => absurd h (Nat.not_lt_zero _)
  | [_], _, j, h => by simp at h
  | x :: y :: t, hn, 0, _ => hn.1
  | x :: y :: t, hn, j + 1, h => nf_at (ns := y :: t) hn.2 j (by simp at h ⊢; omega)
theorem pal_mid {n : Int} {ns : List Int} {d : Nat} (hw : Wd n ns) (h : Pal ns d) (hn : ns ≠ []) (stop : ¬ (2 * d + 1 < ns.length ∧ ns.getD d 0 = - ns.getD (ns.length - 1 - d) 0)) :
    (ns.drop d).take (ns.length - d - d) ≠ [] ∧ ∀ x y, ((ns.drop d).take (ns.length - d - d)).getLast? = some x → ((ns.drop d).take (ns.length - d - d)).head? = some y → x ≠ -y := by
  have hp : 0 < ns.length := List.length_pos_iff.mpr hn
  obtain ⟨h1, h2⟩ := h
  have h3 : 2 * d < ns.length := by
    by_cases q : 2 * d = ns.length
    · exfalso
      have hd : 0 < d := by omega
      have a1 := h2 (d - 1) (by omega)
      have e : ns.length - 1 - (d - 1) = d - 1 + 1 := by omega
      rw [e] at a1
      exact nf_at hw.nf (d - 1) (by omega) a1
    · omega
  have hlen : ((ns.drop d).take (ns.length - d - d)).length = ns.length - d - d := by rw [List.length_take, List.length_drop]; omega
  refine ⟨fun q => by rw [q] at hlen; simp at hlen; omega, fun x y hx hy => ?_⟩
  rw [List.getLast?_eq_getElem?, hlen, List.getElem?_take, if_pos (by omega), List.getElem?_drop, getD_of (by omega)] at hx
  rw [List.head?_eq_getElem?, List.getElem?_take, if_pos (by omega), List.getElem?_drop, getD_of (by omega)] at hy
  cases hx
  cases hy
  have e1 : d + (ns.length - d - d - 1) = ns.length - 1 - d := by omega
  rw [e1, Nat.add_zero]
  intro q
  by_cases h4 : 2 * d + 1 < ns.length
  · exact stop ⟨h4, by omega⟩
  · have e2 : ns.length - 1 - d = d := by omega
    rw [e2] at q
    have := (hw.lt (ns.getD d 0) (List.mem_of_getElem? (getD_of (ns := ns) (j := d) (by omega)))).1
    omega
end N0

namespace N0
open PySem PySem.Spec PyProof.Rows L2 HT
section
variable {K : PySem.W.Frag} {H H1 : Hp} {σ : L2.St}
theorem va_same {v : V} {o : Option (List (Option Int))} (e : Same H H1) (h : Va K H v o) : Va K H1 v o := by
  cases h with
  | tup h hl he => exact .tup (same_tup e h) hl fun j x o hx ho => (he j x o hx ho).same e
  | oth h k => exact .oth (tyx_same e h) k
/-- te gives a value of which P holds, and leaves all that was there -/
def EvS (te : TE) (σ : L2.St) (H : Hp) (P : V → Hp → Prop) : Prop := ∀ H1, Same H H1 → ∀ Q : VK, (∀ v H2, Same H1 H2 → P v H2 → Q v H2) → te σ H1 Q
abbrev IsE (K : PySem.W.Frag) (o : Option Int) : V → Hp → Prop := fun v H => En K H v o
abbrev IsT (K : PySem.W.Frag) (os : List (Option Int)) : V → Hp → Prop := fun v H => Va K H v (some os)
theorem evs_c {v : V} {P : V → Hp → Prop} (h : ∀ H1, Same H H1 → P v H1) : EvS (tC v) σ H P := fun H1 e Q q => q v H1 (Same.refl _) (h H1 e)
theorem evs_var {i : Nat} {v : V} {P : V → Hp → Prop} (hv : σ[i]? = some (some v)) (h : ∀ H1, Same H H1 → P v H1) : EvS (tVar i) σ H P := fun H1 e Q q => ⟨v, hv, q v H1 (Same.refl _) (h H1 e)⟩
theorem en_tup0 : IsT K [] (.ref a) (upd H a (.tup [])) := .tup (tup_of upd_same) rfl fun j x o hx _ => nomatch hx
theorem evs_t0 : EvS (tTup tNil) σ H (IsT K []) := fun H1 e Q q => ⟨Nat.zero_le _, fun p hp => q _ _ (new_same hp) (.tup (tup_of upd_same) rfl fun j x o hx _ => nomatch hx)⟩
theorem evs_t1 {te : TE} {o : Option Int} (h : EvS te σ H (IsE K o)) : EvS (tTup (tCons te tNil)) σ H (IsT K [o]) := fun H1 e Q q => h H1 e _ fun v H2 e2 hv =>
  ⟨by show 1 ≤ sizeLine; decide, fun p hp => q _ _ (Same.trans e2 (new_same hp)) (.tup (tup_of upd_same) rfl fun j x u hx hu => by
    cases j with
    | zero => cases hx; cases hu; exact hv.same (new_same hp)
    | succ j => cases hx)⟩
theorem evs_t2 {te tf : TE} {o u : Option Int} (h : EvS te σ H (IsE K o)) (h2 : EvS tf σ H (IsE K u)) : EvS (tTup (tCons te (tCons tf tNil))) σ H (IsT K [o, u]) := fun H1 e Q q => h H1 e _ fun v H2 e2 hv => h2 H2 (Same.trans e e2) _ fun v2 H3 e3 hv2 =>
  ⟨by show 2 ≤ sizeLine; decide, fun p hp => q _ _ (Same.trans (Same.trans e2 e3) (new_same hp)) (.tup (tup_of upd_same) rfl fun j x y hx hy => by
    cases j with
    | zero => cases hx; cases hy; exact (hv.same e3).same (new_same hp)
    | succ j =>
      cases j with
      | zero => cases hx; cases hy; exact hv2.same (new_same hp)
      | succ j => cases hx)⟩
theorem evs_cat {ta tb : TE} {os ps : List (Option Int)} (h1 : EvS ta σ H (IsT K os)) (h2 : EvS tb σ H (IsT K ps)) (hz : os.length + ps.length ≤ 100000) : EvS (tOp (rCatA K) ta tb) σ H (IsT K (os ++ ps)) := fun H1 e Q q =>
  h1 H1 e _ fun v H2 e2 hv => h2 H2 (Same.trans e e2) _ fun v2 H3 e3 hv2 => by
    have hv := va_same e3 hv
    cases hv with
    | @tup a xs _ h hl he =>
      cases hv2 with
      | @tup b ys _ h' hl' he' =>
        refine ⟨a, b, xs, ys, rfl, rfl, h, h', Nat.le_trans (by omega) (by decide : 100000 ≤ sizeLine), fun ex => q _ _ (Same.trans e2 e3) ?_, fun _ ey => q _ _ (Same.trans e2 e3) ?_, fun _ _ p hp => q _ _ (Same.trans (Same.trans e2 e3) (new_same hp)) ?_⟩
        · subst ex
          have : os = [] := List.eq_nil_of_length_eq_zero hl.symm
          subst this
          exact .tup h' hl' he'
        · subst ey
          have : ps = [] := List.eq_nil_of_length_eq_zero hl'.symm
          subst this
          rw [List.append_nil]
          exact .tup h hl he
        · refine .tup (tup_of upd_same) (by rw [List.length_append, List.length_append, hl, hl']) fun j x o hx ho => ?_
          refine En.same (new_same hp) ?_
          by_cases hj : j < xs.length
          · rw [List.getElem?_append_left hj] at hx
            rw [List.getElem?_append_left (by omega)] at ho
            exact he j x o hx ho
          · rw [List.getElem?_append_right (by omega)] at hx
            rw [List.getElem?_append_right (by omega), ← hl] at ho
            exact he' _ x o hx ho
theorem evs_ints {te : TE} {a : Addr} {ns : List Int} (h : EvS te σ H fun v H => ∃ a, v = .ref a ∧ SqT K H a (ns.map V.int)) : EvS te σ H (IsT K (ns.map some)) := fun H1 e Q q => h H1 e _ fun v H2 e2 ⟨a, ev, ha⟩ => q v H2 e2 (by rw [ev]; exact va_ints ha)
abbrev IsI (K : PySem.W.Frag) (ns : List Int) : V → Hp → Prop := fun v H => ∃ a, v = .ref a ∧ SqT K H a (ns.map V.int)
theorem isI {te : TE} {ns : List Int} (h : EvS te σ H (IsI K ns)) : EvS te σ H (IsT K (ns.map some)) := fun H1 e Q q => h H1 e _ fun v H2 e2 ⟨a, ev, ha⟩ => q v H2 e2 (by rw [ev]; exact va_ints ha)
theorem evs_to {i j : Nat} {a : Addr} {k : Nat} {ns : List Int} (hi : σ[i]? = some (some (.ref a))) (hj : σ[j]? = some (some (.int (k : Int)))) (h : SqT K H a (ns.map V.int)) : EvS (tSl (rSlA K) (tVar i) tNoPart (tPart (tVar j))) σ H (IsI K (ns.take k)) := fun H1 e Q q =>
  ⟨.ref a, hi, .int (k : Int), hj, (k : Int), rfl, sl_ints (same_tup e h) fun H2 p e2 hp => q _ _ e2 ⟨p, rfl, by rw [cutI_to] at hp; exact hp⟩⟩
theorem nopart {Q : Option Int → Hp → Prop} (h : Q none H) : tNoPart σ H Q := h
theorem evs_from {i j : Nat} {a : Addr} {k : Nat} {ns : List Int} (hi : σ[i]? = some (some (.ref a))) (hj : σ[j]? = some (some (.int (k : Int)))) (h : SqT K H a (ns.map V.int)) : EvS (tSl (rSlA K) (tVar i) (tPart (tVar j)) tNoPart) σ H (IsI K (ns.drop k)) := fun H1 e Q q =>
  ⟨.ref a, hi, .int (k : Int), hj, (k : Int), rfl, nopart (sl_ints (same_tup e h) fun H2 p e2 hp => q _ _ e2 ⟨p, rfl, by rw [cutI_from] at hp; exact hp⟩)⟩
/-- what is judged, and the word on it -/
def Itm (K : PySem.W.Frag) (J : Option (List (Option Int)) → Bool) : V → Hp → Prop := fun x H => ∃ (t : Addr) (v : V) (b : Bool) (o : Option (List (Option Int))), x = .ref t ∧ SqT K H t [v, .bl b] ∧ Va K H v o ∧ J o = b
theorem itm_same {J : Option (List (Option Int)) → Bool} {x : V} (e : Same H H1) (h : Itm K J x H) : Itm K J x H1 := by
  obtain ⟨t, v, b, o, e1, e2, e3, e4⟩ := h
  exact ⟨t, v, b, o, e1, same_tup e e2, va_same e e3, e4⟩
theorem evs_itm {J : Option (List (Option Int)) → Bool} {te : TE} {b : Bool} (h : EvS te σ H fun v H => ∃ o, Va K H v o ∧ J o = b) : EvS (tTup (tCons te (tCons (tC (.bl b)) tNil))) σ H (Itm K J) := fun H1 e Q q => h H1 e _ fun v H2 e2 ⟨o, hv, hj⟩ =>
  ⟨by show 2 ≤ sizeLine; decide, fun p hp => q _ _ (Same.trans e2 (new_same hp)) ⟨p, v, b, o, rfl, tup_of upd_same, va_same (new_same hp) hv, hj⟩⟩
theorem evs_of {te : TE} {P P' : V → Hp → Prop} (h : EvS te σ H P) (f : ∀ v H, P v H → P' v H) : EvS te σ H P' := fun H1 e Q q => h H1 e Q fun v H2 e2 hv => q v H2 e2 (f v H2 hv)
theorem itm_t {J : Option (List (Option Int)) → Bool} {te : TE} {b : Bool} {os : List (Option Int)} (h : EvS te σ H (IsT K os)) (hj : J (some os) = b) : EvS (tTup (tCons te (tCons (tC (.bl b)) tNil))) σ H (Itm K J) := evs_itm (evs_of h fun v H hv => ⟨_, hv, hj⟩)
theorem itm_o {J : Option (List (Option Int)) → Bool} {te : TE} {b : Bool} (h : EvS te σ H fun v H => Va K H v none) (hj : J none = b) : EvS (tTup (tCons te (tCons (tC (.bl b)) tNil))) σ H (Itm K J) := evs_itm (evs_of h fun v H hv => ⟨_, hv, hj⟩)
/-- the items of a display -/
def EvA (ta : TA) (σ : L2.St) (H : Hp) (n : Nat) (P : V → Hp → Prop) : Prop := ∀ H1, Same H H1 → ∀ Q : List V → Hp → Prop, (∀ vs H2, Same H1 H2 → vs.length = n → (∀ v ∈ vs, P v H2) → Q vs H2) → ta σ H1 Q
theorem eva_nil {P : V → Hp → Prop} : EvA tNil σ H 0 P := fun H1 e Q q => q [] H1 (Same.refl _) rfl fun _ h => nomatch h
theorem eva_cons {te : TE} {ta : TA} {n : Nat} {P : V → Hp → Prop} (pp : ∀ v H H1, Same H H1 → P v H → P v H1) (h : EvS te σ H P) (h2 : EvA ta σ H n P) : EvA (tCons te ta) σ H (n + 1) P := fun H1 e Q q => h H1 e _ fun v H2 e2 hv => h2 H2 (Same.trans e e2) _ fun vs H3 e3 hn hvs =>
  q _ _ (Same.trans e2 e3) (by rw [List.length_cons, hn]) fun u hu => by
    rcases List.mem_cons.mp hu with hu | hu
    · rw [hu]; exact pp _ _ _ e3 hv
    · exact hvs u hu
end
end N0

/-! rotations: which is least -/
namespace Rg
def Lt (a : Nat → Int) (s t : Nat) : Prop := ∃ j, (∀ i, i < j → a (s + i) = a (t + i)) ∧ a (s + j) < a (t + j)
variable {a : Nat → Int}
theorem Lt.irr {s : Nat} : ¬ Lt a s s := fun ⟨j, _, h⟩ => Int.lt_irrefl _ h
theorem Lt.asy {s t : Nat} (h : Lt a s t) : ¬ Lt a t s := fun ⟨j, h1, h2⟩ => by
  obtain ⟨i, g1, g2⟩ := h
  rcases Nat.lt_trichotomy i j with q | q | q
  · have := h1 i q; omega
  · subst q; omega
  · have := g1 j q; omega
theorem Lt.ntr {s t u : Nat} (h1 : ¬ Lt a s t) (h2 : ¬ Lt a t u) : ¬ Lt a s u := fun ⟨j, g1, g2⟩ => by
  have key : ∀ k, k ≤ j → ∀ i, i < k → a (t + i) = a (s + i) := by
    intro k
    induction k with
    | zero => exact fun _ i hi => absurd hi (Nat.not_lt_zero _)
    | succ k ih =>
      intro hk i hi
      have ih := ih (by omega)
      by_cases q : i < k
      · exact ih i q
      · have : i = k := by omega
        subst this
        have e1 : ¬ a (s + i) < a (t + i) := fun q => h1 ⟨i, fun m hm => (ih m hm).symm, q⟩
        have e2 : ¬ a (t + i) < a (u + i) := fun q => h2 ⟨i, fun m hm => (ih m hm).trans (g1 m (by omega)), q⟩
        have e3 := g1 i (by omega)
        omega
  have ih := key j (Nat.le_refl _)
  have e1 : ¬ a (s + j) < a (t + j) := fun q => h1 ⟨j, fun m hm => (ih m hm).symm, q⟩
  exact h2 ⟨j, fun m hm => (ih m hm).trans (g1 m hm), by omega⟩
theorem exists_min (a : Nat → Int) : ∀ n, 0 < n → ∃ m, m < n ∧ ∀ t, t < n → ¬ Lt a t m
  | 0, h => absurd h (Nat.lt_irrefl _)
  | 1, _ => ⟨0, by decide, fun t ht => (show t = 0 by omega) ▸ Lt.irr⟩
  | n + 2, _ => by
    obtain ⟨m, hm, h⟩ := exists_min a (n + 1) (by omega)
    by_cases q : Lt a (n + 1) m
    · refine ⟨n + 1, by omega, fun t ht => ?_⟩
      by_cases e : t = n + 1
      · subst e; exact Lt.irr
      · exact Lt.ntr (h t (by omega)) q.asy
    · refine ⟨m, by omega, fun t ht => ?_⟩
      by_cases e : t = n + 1
      · subst e; exact q
      · exact h t (by omega)
def Per (a : Nat → Int) (n : Nat) : Prop := ∀ i, a (i + n) = a i
theorem Per.mul {n : Nat} (h : Per a n) : ∀ k i, a (i + k * n) = a i
  | 0, i => by rw [Nat.zero_mul, Nat.add_zero]
  | k + 1, i => by rw [Nat.succ_mul, ← Nat.add_assoc, h, h.mul k]
theorem Per.mod {n : Nat} (h : Per a n) (t i : Nat) : a (t % n + i) = a (t + i) := by
  have e : t + i = t % n + i + (t / n) * n := by have := Nat.mod_add_div t n; rw [Nat.mul_comm] at this; omega
  rw [e, h.mul]
def Least (a : Nat → Int) (s : Nat) : Prop := ∀ t, ¬ Lt a t s
theorem least_min {n : Nat} (p : Per a n) (hn : 0 < n) {s : Nat} (h : ∀ t, t < n → ¬ Lt a t s) : Least a s := fun t ⟨j, h1, h2⟩ => h (t % n) (Nat.mod_lt _ hn) ⟨j, fun i hi => by rw [p.mod]; exact h1 i hi, by rw [p.mod]; exact h2⟩
theorem least_eq {s t : Nat} (hs : Least a s) (ht : Least a t) : ∀ i, a (s + i) = a (t + i) := fun i => by
  have key : ∀ k, ∀ i, i < k → a (s + i) = a (t + i) := by
    intro k
    induction k with
    | zero => exact fun i hi => absurd hi (Nat.not_lt_zero _)
    | succ k ih =>
      intro i hi
      by_cases q : i < k
      · exact ih i q
      · have : i = k := by omega
        subst this
        have e1 : ¬ a (s + i) < a (t + i) := fun q => ht s ⟨i, ih, q⟩
        have e2 : ¬ a (t + i) < a (s + i) := fun q => hs t ⟨i, fun m hm => (ih m hm).symm, q⟩
        omega
  exact key (i + 1) i (by omega)
theorem least_of_eq {s t : Nat} (hs : Least a s) (h : ∀ i, a (s + i) = a (t + i)) : Least a t := fun u ⟨j, h1, h2⟩ => hs u ⟨j, fun i hi => (h1 i hi).trans (h i).symm, by rw [h]; exact h2⟩
/-- two places that compete -/
structure Inv (a : Nat → Int) (f s k : Nat) : Prop where
  ne : f ≠ s
  eq : ∀ i, i < k → a (f + i) = a (s + i)
  bad : ∀ t, t < max f s → t ≠ f → t ≠ s → ∃ u, Lt a u t
theorem Inv.symm {f s k : Nat} (h : Inv a f s k) : Inv a s f k := ⟨h.ne.symm, fun i hi => (h.eq i hi).symm, fun t ht h1 h2 => h.bad t (by omega) h2 h1⟩
theorem Inv.start : Inv a 0 1 0 := ⟨by decide, fun i hi => absurd hi (Nat.not_lt_zero _), fun t ht h1 h2 => by omega⟩
theorem Inv.grow {f s k : Nat} (h : Inv a f s k) (e : a (f + k) = a (s + k)) : Inv a f s (k + 1) := ⟨h.ne, fun i hi => by
  by_cases q : i < k
  · exact h.eq i q
  · have : i = k := by omega
    subst this; exact e, h.bad⟩
theorem Inv.lost {f s k : Nat} (h : Inv a f s k) (e : a (s + k) < a (f + k)) (t : Nat) (h1 : f ≤ t) (h2 : t ≤ f + k) : ∃ u, Lt a u t := by
  refine ⟨s + (t - f), k - (t - f), fun i hi => ?_, ?_⟩
  · have e1 : s + (t - f) + i = s + ((t - f) + i) := by omega
    have e2 : t + i = f + ((t - f) + i) := by omega
    rw [e1, e2]
    exact (h.eq _ (by omega)).symm
  · have e1 : s + (t - f) + (k - (t - f)) = s + k := by omega
    have e2 : t + (k - (t - f)) = f + k := by omega
    rw [e1, e2]
    exact e
theorem Inv.on {f s k : Nat} (h : Inv a f s k) (e : a (s + k) < a (f + k)) (hne : f + k + 1 ≠ s) : Inv a (f + k + 1) s 0 := by
  refine ⟨hne, fun i hi => absurd hi (Nat.not_lt_zero _), fun t ht h1 h2 => ?_⟩
  by_cases q : f ≤ t ∧ t ≤ f + k
  · exact h.lost e t q.1 q.2
  · exact h.bad t (by omega) (by omega) h2
theorem Inv.on2 {f s k : Nat} (h : Inv a f s k) (e : a (s + k) < a (f + k)) (hne : f + k + 1 = s) : Inv a (f + k + 1) (s + 1) 0 := by
  refine ⟨by omega, fun i hi => absurd hi (Nat.not_lt_zero _), fun t ht h1 h2 => ?_⟩
  by_cases q : f ≤ t ∧ t ≤ f + k
  · exact h.lost e t q.1 q.2
  · exact h.bad t (by omega) (by omega) (by omega)
theorem Inv.done {n f s k : Nat} (p : Per a n) (hn : 0 < n) (h : Inv a f s k) (hlt : f < s) (hz : ¬ (s < n ∧ k < n)) : f < n ∧ Least a f := by
  obtain ⟨m, hm, hmin⟩ := exists_min a n hn
  have lm := least_min p hn hmin
  have nb : ∀ t, t < s → t ≠ f → ∃ u, Lt a u t := fun t ht h1 => h.bad t (by omega) h1 (by omega)
  by_cases q : m < s
  · by_cases e : m = f
    · subst e; exact ⟨hm, lm⟩
    · obtain ⟨u, hu⟩ := nb m q e
      exact absurd hu (lm u)
  · have hk : ¬ k < n := fun z => hz ⟨by omega, z⟩
    have per : ∀ i, a (f + i) = a (s + i) := fun i => by
      have e1 : a (f + i) = a (f + i % n) := by
        have := p.mul (i / n) (f + i % n)
        have e : f + i % n + i / n * n = f + i := by have := Nat.mod_add_div i n; rw [Nat.mul_comm] at this; omega
        rw [e] at this; exact this
      have e2 : a (s + i) = a (s + i % n) := by
        have := p.mul (i / n) (s + i % n)
        have e : s + i % n + i / n * n = s + i := by have := Nat.mod_add_div i n; rw [Nat.mul_comm] at this; omega
        rw [e] at this; exact this
      have := Nat.mod_lt i hn
      rw [e1, e2, h.eq (i % n) (by omega)]
    let d := s - f
    let b : Nat → Int := fun i => a (f + i)
    have pb : Per b d := fun i => by
      show a (f + (i + (s - f))) = a (f + i)
      have e : f + (i + (s - f)) = s + i := by omega
      rw [e, per]
    have hd : 0 < d := by show 0 < s - f; omega
    have eqs : ∀ i, a (f + (m - f) % d + i) = a (m + i) := fun i => by
      have := pb.mod (m - f) i
      show _
      have e1 : a (f + ((m - f) % d + i)) = a (f + ((m - f) + i)) := this
      have e2 : f + ((m - f) + i) = m + i := by omega
      have e3 : f + (m - f) % d + i = f + ((m - f) % d + i) := by omega
      rw [e3, e1, e2]
    have hmod := Nat.mod_lt (m - f) hd
    by_cases e : (m - f) % d = 0
    · rw [e, Nat.add_zero] at eqs
      exact ⟨by omega, least_of_eq lm fun i => (eqs i).symm⟩
    · obtain ⟨u, hu⟩ := nb (f + (m - f) % d) (by show _ < s; have : d = s - f := rfl; omega) (by omega)
      exact absurd hu (least_of_eq lm (fun i => (eqs i).symm) u)
theorem Inv.fin {n f s k : Nat} (p : Per a n) (hn : 0 < n) (h : Inv a f s k) (hz : ¬ (f < n ∧ s < n ∧ k < n)) : min f s < n ∧ Least a (min f s) := by
  rcases Nat.lt_or_ge f s with q | q
  · have := h.done p hn q (by omega)
    rw [Nat.min_eq_left (by omega)]; exact this
  · have hne := h.ne
    have := h.symm.done p hn (by omega) (by omega)
    rw [Nat.min_eq_right (by omega)]; exact this
/-! a list, round and round -/
def sq (l : List Int) (i : Nat) : Int := l.getD (i % l.length) 0
def rot (l : List Int) (k : Nat) : List Int := l.drop k ++ l.take k
theorem per_sq (l : List Int) : Per (sq l) l.length := fun i => by unfold sq; rw [Nat.add_mod_right]
theorem rot_len (l : List Int) (k : Nat) : (rot l k).length = l.length := by
  unfold rot; rw [List.length_append, List.length_drop, List.length_take]; omega
theorem rot_at {l : List Int} {k j : Nat} (hk : k ≤ l.length) (hj : j < l.length) : (rot l k).getD j 0 = sq l (k + j) := by
  unfold rot sq
  rw [List.getD_eq_getElem?_getD, List.getD_eq_getElem?_getD]
  by_cases q : j < l.length - k
  · rw [List.getElem?_append_left (by rw [List.length_drop]; exact q), List.getElem?_drop, Nat.mod_eq_of_lt (by omega)]
  · rw [List.getElem?_append_right (by rw [List.length_drop]; omega), List.length_drop, List.getElem?_take, if_pos (by omega)]
    have e : k + j = j - (l.length - k) + l.length := by omega
    rw [e, Nat.add_mod_right, Nat.mod_eq_of_lt (by omega)]
theorem list_ext {l m : List Int} (hl : l.length = m.length) (h : ∀ j, j < l.length → l.getD j 0 = m.getD j 0) : l = m := by
  refine List.ext_getElem? fun j => ?_
  by_cases q : j < l.length
  · rw [N0.getD_of q, N0.getD_of (hl ▸ q), h j q]
  · rw [List.getElem?_eq_none (by omega), List.getElem?_eq_none (by omega)]
theorem rot_sq {l : List Int} {k : Nat} (hk : k ≤ l.length) (i : Nat) : sq (rot l k) i = sq l (k + i) := by
  by_cases hn : l.length = 0
  · have : l = [] := List.eq_nil_of_length_eq_zero hn
    subst this
    unfold rot sq; simp
  · have : sq (rot l k) i = (rot l k).getD (i % l.length) 0 := by show (rot l k).getD (i % (rot l k).length) 0 = _; rw [rot_len]
    rw [this, rot_at hk (Nat.mod_lt _ (by omega))]
    have e := (per_sq l).mul (i / l.length) (k + i % l.length)
    have e1 : k + i % l.length + i / l.length * l.length = k + i := by have := Nat.mod_add_div i l.length; rw [Nat.mul_comm] at this; omega
    rw [e1] at e
    exact e.symm
theorem sq_self {l : List Int} {j : Nat} (hj : j < l.length) : sq l j = l.getD j 0 := by unfold sq; rw [Nat.mod_eq_of_lt hj]
/-- a row is the ring of another one -/
def Ring (m r : List Int) : Prop := r.length = m.length ∧ ∃ s, Least (sq m) s ∧ ∀ i, sq r i = sq m (s + i)
theorem ring_uniq {m r q : List Int} (h1 : Ring m r) (h2 : Ring m q) : r = q := by
  obtain ⟨l1, s, a1, b1⟩ := h1
  obtain ⟨l2, t, a2, b2⟩ := h2
  refine list_ext (l1.trans l2.symm) fun j hj => ?_
  have := least_eq a1 a2 j
  rw [← b1, ← b2, sq_self hj, sq_self (by omega)] at this
  exact this
theorem ring_rot {m : List Int} {k : Nat} (hk : k ≤ m.length) (h : Least (sq m) k) : Ring m (rot m k) := ⟨rot_len m k, k, h, fun i => rot_sq hk i⟩
/-- m is u turned -/
def Tn (u m : List Int) : Prop := m.length = u.length ∧ ∃ k, ∀ i, sq m i = sq u (k + i)
theorem tn_rot {m : List Int} {k : Nat} (hk : k ≤ m.length) : Tn m (rot m k) := ⟨rot_len m k, k, fun i => rot_sq hk i⟩
theorem Tn.refl (m : List Int) : Tn m m := ⟨rfl, 0, fun i => by rw [Nat.zero_add]⟩
theorem Tn.symm {u m : List Int} (h : Tn u m) : Tn m u := by
  obtain ⟨h1, k, h2⟩ := h
  by_cases hn : u.length = 0
  · have e1 : u = [] := List.eq_nil_of_length_eq_zero hn
    have e2 : m = [] := List.eq_nil_of_length_eq_zero (by omega)
    subst e1 e2
    exact Tn.refl _
  · refine ⟨h1.symm, u.length - k % u.length, fun i => ?_⟩
    rw [h2]
    have hm := Nat.mod_lt k (Nat.pos_of_ne_zero hn)
    have hd := Nat.mod_add_div k u.length
    rw [Nat.mul_comm] at hd
    have e : k + (u.length - k % u.length + i) = i + (k / u.length + 1) * u.length := by rw [Nat.add_mul, Nat.one_mul]; omega
    rw [e, (per_sq u).mul]
theorem Tn.trans {u m v : List Int} (h : Tn u m) (g : Tn m v) : Tn u v := by
  obtain ⟨h1, k, h2⟩ := h
  obtain ⟨g1, l, g2⟩ := g
  exact ⟨g1.trans h1, k + l, fun i => by rw [g2, h2, Nat.add_assoc]⟩
theorem Ring.tn {m r : List Int} (h : Ring m r) : Tn m r := ⟨h.1, h.2.choose, h.2.choose_spec.2⟩
theorem ring_tn {u m r : List Int} (h : Tn u m) (g : Ring u r) : Ring m r := by
  obtain ⟨g1, s, g2, g3⟩ := g
  obtain ⟨h1, k, h2⟩ := h.symm
  refine ⟨g1.trans h1, k + s, fun t ht => ?_, fun i => by rw [g3, h2, Nat.add_assoc]⟩
  obtain ⟨_, l, h4⟩ := h
  obtain ⟨j, e1, e2⟩ := ht
  rw [Nat.add_assoc] at e2
  refine g2 (l + t) ⟨j, fun i hi => ?_, ?_⟩
  · have := e1 i hi
    rw [h4, Nat.add_assoc k, ← h2, ← Nat.add_assoc] at this
    exact this
  · rw [h4, ← h2, ← Nat.add_assoc] at e2
    exact e2
theorem ring_ex (m : List Int) : ∃ r, Ring m r := by
  by_cases hn : m.length = 0
  · have e1 : m = [] := List.eq_nil_of_length_eq_zero hn
    subst e1
    exact ⟨[], rfl, 0, fun t ⟨j, _, h⟩ => by unfold sq at h; simp at h, fun i => by rw [Nat.zero_add]⟩
  · obtain ⟨k, hk, h⟩ := exists_min (sq m) m.length (by omega)
    exact ⟨rot m k, ring_rot (by omega) (least_min (per_sq m) (by omega) h)⟩
theorem tn_of_ring {u m r : List Int} (h : Ring u r) (g : Ring m r) : Tn u m := h.tn.trans g.tn.symm
theorem ring_nil : Ring [] [] := ⟨rfl, 0, fun t ⟨j, _, h⟩ => by unfold sq at h; simp at h, fun i => by rw [Nat.zero_add]⟩
theorem Ring.self {m r : List Int} (h : Ring m r) : Ring r r := ring_tn h.tn h
/-! by the order of tuples -/
theorem lex_of : ∀ (x y : List Int) (j : Nat), x.length = y.length → j < x.length → (∀ i, i < j → x.getD i 0 = y.getD i 0) → x.getD j 0 < y.getD j 0 → HT.lexLt x y = true
  | [], _, j, _, h, _, _ => absurd h (Nat.not_lt_zero _)
  | _ :: _, [], j, h, _, _, _ => nomatch h
  | x :: xs, y :: ys, 0, _, _, _, h2 => by
    have h2 : x < y := h2
    rw [HT.lexLt_cons, if_neg (by omega)]
    exact decide_eq_true h2
  | x :: xs, y :: ys, j + 1, hl, hj, h1, h2 => by
    have h0 : x = y := h1 0 (by omega)
    rw [HT.lexLt_cons, if_pos h0]
    exact lex_of xs ys j (by simpa using hl) (by simpa using hj) (fun i hi => h1 (i + 1) (by omega)) h2
theorem least_lex {l : List Int} {k : Nat} (hk : k < l.length) (h : ∀ t, t < l.length → HT.lexLt (rot l t) (rot l k) = false) : Least (sq l) k := by
  refine least_min (per_sq l) (by omega) fun t ht ⟨j, h1, h2⟩ => ?_
  have hj : j < l.length := by
    refine Decidable.byContradiction fun q => ?_
    have e := h1 (j % l.length) (by have := Nat.mod_lt j (show 0 < l.length by omega); omega)
    have p := fun t => (per_sq l).mul (j / l.length) (t + j % l.length)
    have e1 : ∀ t, t + j % l.length + j / l.length * l.length = t + j := fun t => by have := Nat.mod_add_div j l.length; rw [Nat.mul_comm] at this; omega
    have p1 := p t
    have p2 := p k
    rw [e1] at p1 p2
    omega
  have := lex_of (rot l t) (rot l k) j (by rw [rot_len, rot_len]) (by rw [rot_len]; exact hj) (fun i hi => by rw [rot_at (by omega) (by omega), rot_at (by omega) (by omega)]; exact h1 i hi) (by rw [rot_at (by omega) (by omega), rot_at (by omega) (by omega)]; exact h2)
  rw [h t ht] at this
  cases this
end Rg

/-! cores and rings of words -/
namespace Rg
open Fr
def Cr (m : List Int) : Prop := m ≠ [] ∧ ∀ x y, m.getLast? = some x → m.head? = some y → x ≠ -y
def Spl (ns c m : List Int) : Prop := ns = c ++ m ++ opp c ∧ (ns = [] → c = [] ∧ m = []) ∧ (ns ≠ [] → Cr m)
theorem snoc_of {m : List Int} (h : m ≠ []) : ∃ t q, m = t ++ [q] := ⟨m.dropLast, m.getLast h, (List.dropLast_concat_getLast h).symm⟩
theorem nf_mid {a b c : List Int} (h : Nf (a ++ b ++ c)) : Nf b := nf_back (nf_front h)
theorem nf_cons {x : Int} {w : List Int} (hw : Nf w) (h : ∀ y, w.head? = some y → x ≠ -y) : Nf (x :: w) := by
  cases w with
  | nil => exact True.intro
  | cons y t => exact ⟨h y rfl, hw⟩
theorem nf_end {x : Int} {w : List Int} (hw : Nf w) (h : ∀ y, w.getLast? = some y → y ≠ -x) : Nf (w ++ [x]) := nf_join hw True.intro fun u v hu hv => by cases hv; exact h u hu
theorem last_snoc (t : List Int) (q : Int) : (t ++ [q]).getLast? = some q := by rw [List.getLast?_append]; rfl
theorem nf_jn {a b : List Int} {x y : Int} (hab : Nf (a ++ b)) (hx : a.getLast? = some x) (hy : b.head? = some y) : x ≠ -y := by
  have hne : a ≠ [] := fun q => by rw [q] at hx; cases hx
  obtain ⟨t, q, rfl⟩ := snoc_of hne
  rw [last_snoc] at hx
  cases hx
  cases b with
  | nil => cases hy
  | cons z b' =>
    cases hy
    rw [List.append_assoc] at hab
    exact (nf_back hab).1
theorem turn1 {w c m : List Int} (hw : Nf w) (s : w = c ++ m ++ opp c) (h : Cr m) (x : Int) : ∃ c' m', red ([x] ++ w ++ [-x]) = c' ++ m' ++ opp c' ∧ Cr m' ∧ Tn m m' := by
  have long : (∀ y, w.head? = some y → x ≠ -y) → (∀ y, w.getLast? = some y → y ≠ x) → ∃ c' m', red ([x] ++ w ++ [-x]) = c' ++ m' ++ opp c' ∧ Cr m' ∧ Tn m m' := fun h1 h2 => by
    have hne : w ≠ [] := fun q => by
      rw [q] at s
      have := congrArg List.length s
      simp only [List.length_append, List.length_nil] at this
      exact h.1 (List.eq_nil_of_length_eq_zero (by omega))
    refine ⟨x :: c, m, ?_, h, Tn.refl m⟩
    rw [red_id, opp_cons, s]
    · simp [List.append_assoc]
    · refine nf_end (w := x :: w) (nf_cons hw h1) fun y hy => ?_
      have : (x :: w).getLast? = w.getLast? := by
        cases w with
        | nil => exact absurd rfl hne
        | cons a b => rw [List.getLast?_cons_cons]
      rw [this] at hy
      have := h2 y hy
      omega
  cases c with
  | cons y c =>
    rw [opp_cons] at s
    by_cases q : x = -y
    · refine ⟨c, m, ?_, h, Tn.refl m⟩
      have e : [x] ++ w ++ [-x] = [] ++ x :: y :: ((c ++ m ++ opp c) ++ [-y, -x]) := by rw [s]; simp [List.append_assoc]
      rw [e, red_strike _ _ _ _ q]
      have e2 : [] ++ ((c ++ m ++ opp c) ++ [-y, -x]) = (c ++ m ++ opp c) ++ (-y) :: (-x) :: [] := rfl
      rw [e2, red_strike _ _ _ _ (by omega), List.append_nil]
      refine red_id ?_
      have : w = [y] ++ (c ++ m ++ opp c) ++ [-y] := by rw [s]; simp [List.append_assoc]
      rw [this] at hw
      exact nf_mid hw
    · refine long (fun z hz => ?_) fun z hz => ?_
      · rw [s] at hz; cases hz; exact q
      · rw [s, ← List.append_assoc, last_snoc] at hz; cases hz; omega
  | nil =>
    have s : w = m := by rw [s]; simp [opp]
    subst s
    obtain ⟨p, t, rfl⟩ : ∃ p t, w = p :: t := by
      cases w with
      | nil => exact absurd rfl h.1
      | cons a b => exact ⟨a, b, rfl⟩
    by_cases q : x = -p
    · refine ⟨[], t ++ [p], ?_, ⟨by simp, fun u v hu hv => ?_⟩, tn_rot (m := p :: t) (k := 1) (by simp)⟩
      · have e : [x] ++ (p :: t) ++ [-x] = [] ++ x :: p :: (t ++ [-x]) := rfl
        rw [e, red_strike _ _ _ _ q, List.nil_append, show -x = p by omega]
        have : Nf (t ++ [p]) := by
          refine nf_end hw.tail fun y hy => ?_
          refine h.2 y p ?_ rfl
          cases t with
          | nil => cases hy
          | cons a b => rw [List.getLast?_cons_cons]; exact hy
        rw [red_id this]
        simp [opp]
      · rw [last_snoc] at hu
        cases hu
        cases t with
        | nil => cases hv; exact h.2 p p rfl rfl
        | cons a b => cases hv; exact hw.1
    · obtain ⟨t2, z, e0⟩ := snoc_of h.1
      by_cases q2 : z = x
      · subst q2
        rw [e0] at hw h ⊢
        refine ⟨[], z :: t2, ?_, ⟨by simp, fun u v hu hv => ?_⟩, ?_⟩
        · have e : [z] ++ (t2 ++ [z]) ++ [-z] = (z :: t2) ++ z :: (-z) :: [] := by simp [List.append_assoc]
          rw [e, red_strike _ _ _ _ (by omega), List.append_nil]
          have : Nf (z :: t2) := nf_cons (nf_front hw) fun y hy => by
            refine h.2 z y (last_snoc _ _) ?_
            cases t2 with
            | nil => cases hy
            | cons a b => exact hy
          rw [red_id this]
          simp [opp]
        · cases hv
          cases t2 with
          | nil => cases hu; exact h.2 z z rfl rfl
          | cons a b =>
            rw [List.getLast?_cons_cons] at hu
            exact nf_jn hw hu rfl
        · have := tn_rot (m := t2 ++ [z]) (k := t2.length) (by simp)
          unfold rot at this
          rw [List.drop_left, List.take_left] at this
          exact this
      · refine long (fun y hy => ?_) fun y hy => ?_
        · cases hy; exact q
        · rw [e0, last_snoc] at hy; cases hy; exact q2
theorem spl_nil : Spl [] [] [] := ⟨rfl, fun _ => ⟨rfl, rfl⟩, fun q => absurd rfl q⟩
theorem spl_of {w c m : List Int} (s : w = c ++ m ++ opp c) (h : Cr m) : Spl w c m := ⟨s, fun q => by
  rw [q] at s
  have := congrArg List.length s
  simp only [List.length_append, List.length_nil] at this
  exact absurd (List.eq_nil_of_length_eq_zero (by omega)) h.1, fun _ => h⟩
theorem turn (w c m : List Int) (hw : Nf w) (s : Spl w c m) : ∀ by_ : List Int, ∃ c' m', Spl (red (by_ ++ w ++ opp by_)) c' m' ∧ Tn m m'
  | b => by
    by_cases hn : w = []
    · obtain ⟨rfl, rfl⟩ := s.2.1 hn
      subst hn
      rw [List.append_nil, red_opp_self]
      exact ⟨[], [], spl_nil, Tn.refl _⟩
    · suffices ∃ c' m', red (b ++ w ++ opp b) = c' ++ m' ++ opp c' ∧ Cr m' ∧ Tn m m' by
        obtain ⟨c', m', e1, e2, e3⟩ := this
        exact ⟨c', m', spl_of e1 e2, e3⟩
      induction b with
      | nil => exact ⟨c, m, by rw [show ([] : List Int) ++ w ++ opp [] = w by simp [opp], red_id hw]; exact s.1, s.2.2 hn, Tn.refl _⟩
      | cons x b ih =>
        obtain ⟨c', m', e1, e2, e3⟩ := ih
        obtain ⟨c2, m2, f1, f2, f3⟩ := turn1 (red_nf (b ++ w ++ opp b)) e1 e2 x
        refine ⟨c2, m2, ?_, f2, e3.trans f3⟩
        rw [← f1, opp_cons]
        have e : x :: b ++ w ++ (opp b ++ [-x]) = [x] ++ ((b ++ w ++ opp b) ++ [-x]) := by simp [List.append_assoc]
        rw [e, ← red_app_r, ← red_app_l (b ++ w ++ opp b), red_app_r, List.append_assoc [x]]
theorem spl_uniq : ∀ {c c' : List Int} {w m m' : List Int}, Spl w c m → Spl w c' m' → c = c' ∧ m = m' := fun {c} => by
  suffices ∀ {c' w m m' : List Int}, w = c ++ m ++ opp c → w = c' ++ m' ++ opp c' → Cr m → Cr m' → c = c' ∧ m = m' by
    intro c' w m m' s s'
    by_cases hn : w = []
    · obtain ⟨rfl, rfl⟩ := s.2.1 hn
      obtain ⟨rfl, rfl⟩ := s'.2.1 hn
      exact ⟨rfl, rfl⟩
    · exact this s.1 s'.1 (s.2.2 hn) (s'.2.2 hn)
  have bad : ∀ {x : Int} {c m : List Int}, Cr (x :: c ++ m ++ opp (x :: c)) → False := fun {x c m} h => by
    rw [opp_cons, ← List.append_assoc] at h
    exact h.2 (-x) x (last_snoc _ _) rfl rfl
  induction c with
  | nil =>
    intro c' w m m' s s' h h'
    have s : w = m := by rw [s]; simp [opp]
    subst s
    cases c' with
    | nil => exact ⟨rfl, by rw [s']; simp [opp]⟩
    | cons x c' => rw [s'] at h; exact (bad h).elim
  | cons x c ih =>
    intro c' w m m' s s' h h'
    cases c' with
    | nil =>
      have s' : w = m' := by rw [s']; simp [opp]
      subst s'
      rw [s] at h'
      exact (bad h').elim
    | cons y c' =>
      rw [s, opp_cons, opp_cons, ← List.append_assoc, ← List.append_assoc] at s'
      injection s' with e1 e2
      subst e1
      have e3 := List.append_inj_left' e2 rfl
      obtain ⟨rfl, rfl⟩ := ih rfl e3 h h'
      exact ⟨rfl, rfl⟩
/-- the ring of a word -/
def RingW (w r : List Int) : Prop := ∃ c m, Spl w c m ∧ Ring m r
theorem ringw_uniq {w r q : List Int} (h : RingW w r) (g : RingW w q) : r = q := by
  obtain ⟨c, m, h1, h2⟩ := h
  obtain ⟨c', m', g1, g2⟩ := g
  obtain ⟨rfl, rfl⟩ := spl_uniq h1 g1
  exact ring_uniq h2 g2
theorem ringw_turn {w r : List Int} (hw : Nf w) (h : RingW w r) (b : List Int) : RingW (red (b ++ w ++ opp b)) r := by
  obtain ⟨c, m, h1, h2⟩ := h
  obtain ⟨c', m', g1, g2⟩ := turn w c m hw h1 b
  exact ⟨c', m', g1, ring_tn g2 h2⟩
theorem opp_last (m : List Int) : (opp m).getLast? = m.head?.map fun e => -e := by
  cases m with
  | nil => rfl
  | cons a b => rw [opp_cons, last_snoc]; rfl
theorem opp_head (m : List Int) : (opp m).head? = m.getLast?.map fun e => -e := by
  by_cases hn : m = []
  · subst hn; rfl
  · obtain ⟨t, q, rfl⟩ := snoc_of hn
    rw [opp_app, last_snoc]
    rfl
theorem cr_opp {m : List Int} (h : Cr m) : Cr (opp m) := by
  refine ⟨fun q => h.1 (by have := congrArg opp q; rw [opp_opp] at this; exact this), fun x y hx hy => ?_⟩
  rw [opp_last] at hx
  rw [opp_head] at hy
  cases h1 : m.head? with
  | none => rw [h1] at hx; cases hx
  | some a =>
    cases h2 : m.getLast? with
    | none => rw [h2] at hy; cases hy
    | some b =>
      rw [h1] at hx
      rw [h2] at hy
      cases hx
      cases hy
      have := h.2 b a h2 h1
      show -a ≠ - -b
      omega
theorem spl_opp {w c m : List Int} (s : Spl w c m) : Spl (opp w) c (opp m) := by
  by_cases hn : w = []
  · obtain ⟨rfl, rfl⟩ := s.2.1 hn
    subst hn
    exact spl_nil
  · refine spl_of ?_ (cr_opp (s.2.2 hn))
    rw [s.1, opp_app, opp_app, opp_opp, List.append_assoc]
theorem opp_at {m : List Int} {i : Nat} (hi : i < m.length) : (opp m).getD i 0 = - m.getD (m.length - 1 - i) 0 := by
  rw [List.getD_eq_getElem?_getD]
  unfold opp
  rw [List.getElem?_reverse (by rw [List.length_map]; exact hi), List.length_map, List.getElem?_map, N0.getD_of (by omega)]
  rfl
theorem no_back {m : List Int} (hn : Nf m) (hz : ∀ e, e ∈ m → e ≠ 0) (h : Tn m (opp m)) : m = [] := by
  refine Decidable.byContradiction fun hne => ?_
  have hp : 0 < m.length := List.length_pos_iff.mpr hne
  obtain ⟨_, k, h⟩ := h
  have hk := Nat.mod_lt k hp
  have h : ∀ i, i < m.length → - m.getD (m.length - 1 - i) 0 = sq m (k % m.length + i) := fun i hi => by
    have := h i
    rw [show sq (opp m) i = (opp m).getD i 0 from sq_self (by rw [opp_len]; exact hi), opp_at hi] at this
    rw [this, (per_sq m).mod]
  rcases Nat.mod_two_eq_zero_or_one (m.length - 1 - k % m.length) with q | q
  · have := h ((m.length - 1 - k % m.length) / 2) (by omega)
    rw [sq_self (by omega)] at this
    have e : k % m.length + (m.length - 1 - k % m.length) / 2 = m.length - 1 - (m.length - 1 - k % m.length) / 2 := by omega
    rw [e] at this
    exact hz _ (List.mem_of_getElem? (N0.getD_of (ns := m) (j := m.length - 1 - (m.length - 1 - k % m.length) / 2) (by omega))) (by omega)
  · have := h ((m.length - 2 - k % m.length) / 2) (by omega)
    rw [sq_self (by omega)] at this
    have e : m.length - 1 - (m.length - 2 - k % m.length) / 2 = k % m.length + (m.length - 2 - k % m.length) / 2 + 1 := by omega
    rw [e] at this
    exact N0.nf_at hn (k % m.length + (m.length - 2 - k % m.length) / 2) (by omega) this.symm
theorem spl_empty {w c m : List Int} (s : Spl w c m) (h : m = []) : w = [] := Decidable.byContradiction fun q => (s.2.2 q).1 h
theorem ringw_back {w r : List Int} (hn : Nf w) (hz : ∀ e, e ∈ w → e ≠ 0) (h : RingW w r) (g : RingW (opp w) r) : w = [] := by
  obtain ⟨c, m, h1, h2⟩ := h
  obtain ⟨c', m', g1, g2⟩ := g
  obtain ⟨rfl, rfl⟩ := spl_uniq g1 (spl_opp h1)
  refine spl_empty h1 (no_back (nf_mid (h1.1 ▸ hn)) (fun e he => hz e (by rw [h1.1]; simp [he])) (tn_of_ring h2 g2))
theorem rep_at (l : List Int) : ∀ n i, i < n * l.length → (rep l n).getD i 0 = l.getD (i % l.length) 0
  | 0, i, h => by omega
  | n + 1, i, h => by
    show (rep l n ++ l).getD i 0 = _
    rw [Nat.succ_mul] at h
    rw [List.getD_eq_getElem?_getD]
    by_cases q : i < n * l.length
    · rw [List.getElem?_append_left (by rw [rep_len]; exact q), ← List.getD_eq_getElem?_getD, rep_at l n i q]
    · rw [List.getElem?_append_right (by rw [rep_len]; omega), rep_len, ← List.getD_eq_getElem?_getD]
      have e : i = (i - n * l.length) + n * l.length := by omega
      have e2 : i % l.length = i - n * l.length := by
        rw [e, Nat.add_mul_mod_self_right, Nat.mod_eq_of_lt (by omega)]
        omega
      rw [e2]
theorem sq_rep (l : List Int) (n : Nat) : sq (rep l (n + 1)) = sq l := by
  funext i
  unfold sq
  by_cases hn : l = []
  · subst hn; rw [rep_nil]
  · have hp : 0 < l.length := List.length_pos_iff.mpr hn
    have : 0 < (n + 1) * l.length := Nat.mul_pos (by omega) hp
    rw [rep_at l (n + 1) _ (by rw [rep_len]; exact Nat.mod_lt _ this), rep_len, Nat.mod_mod_of_dvd _ ⟨n + 1, Nat.mul_comm _ _⟩]
theorem ring_rep {m r : List Int} (h : Ring m r) (n : Nat) : Ring (rep m (n + 1)) (rep r (n + 1)) := by
  obtain ⟨h1, s, h2, h3⟩ := h
  refine ⟨by rw [rep_len, rep_len, h1], s, ?_, fun i => ?_⟩
  · rw [sq_rep]; exact h2
  · rw [sq_rep, sq_rep]; exact h3 i
theorem rep_ends {m : List Int} (h : Cr m) (n : Nat) : Cr (rep m (n + 1)) := by
  obtain ⟨t, z, e⟩ := snoc_of h.1
  have hz : m.getLast? = some z := by rw [e]; exact last_snoc _ _
  obtain ⟨p, hp⟩ : ∃ p, m.head? = some p := by
    cases m with
    | nil => exact absurd rfl h.1
    | cons a b => exact ⟨a, rfl⟩
  refine ⟨fun q => ?_, fun x y hx hy => ?_⟩
  · have := head_rep hp n
    rw [q] at this
    cases this
  · rw [last_rep hz n] at hx
    rw [head_rep hp n] at hy
    cases hx
    cases hy
    exact h.2 z p hz hp
theorem ringw_rep {w r : List Int} (hw : Nf w) (h : RingW w r) (n : Nat) : RingW (red (rep w (n + 1))) (rep r (n + 1)) := by
  obtain ⟨c, m, h1, h2⟩ := h
  by_cases hn : w = []
  · obtain ⟨rfl, rfl⟩ := h1.2.1 hn
    subst hn
    refine ⟨[], [], by rw [rep_nil]; exact spl_nil, ?_⟩
    have := ring_rep h2 n
    rw [rep_nil] at this
    exact this
  · have hm := h1.2.2 hn
    have e := red_pow (h1.1 ▸ hw) hm.1 hm.2 n
    rw [← h1.1] at e
    rw [e]
    exact ⟨c, rep m (n + 1), spl_of rfl (rep_ends hm n), ring_rep h2 n⟩
theorem cr_rot {m : List Int} (hn : Nf m) (h : Cr m) (k : Nat) (hk : k < m.length) : Nf (rot m k) ∧ Cr (rot m k) := by
  unfold rot
  have e := List.take_append_drop k m
  have hb : m.drop k ≠ [] := fun q => by have := congrArg List.length q; rw [List.length_drop] at this; simp at this; omega
  generalize m.take k = a at e
  generalize m.drop k = b at e hb
  subst e
  cases a with
  | nil => rw [List.append_nil]; exact ⟨hn, h⟩
  | cons p a =>
    obtain ⟨t, z, rfl⟩ := snoc_of hb
    refine ⟨nf_join (nf_back hn) (nf_front hn) fun x y hx hy => ?_, by simp, fun x y hx hy => ?_⟩
    · exact h.2 x y (by rw [List.getLast?_append, hx]; rfl) hy
    · rw [List.getLast?_append] at hx
      have hy : (t ++ [z]).head? = some y := by
        rw [List.head?_append] at hy
        cases t with
        | nil => exact hy
        | cons u v => exact hy
      refine nf_jn hn ?_ hy
      cases q : (p :: a).getLast? with
      | none => cases a <;> simp at q
      | some v => rw [q] at hx; exact hx
theorem ring_is {m r : List Int} (h : Ring m r) : m = [] ∧ r = [] ∨ ∃ k, k < m.length ∧ r = rot m k := by
  by_cases hn : m.length = 0
  · have e1 : m = [] := List.eq_nil_of_length_eq_zero hn
    exact .inl ⟨e1, List.eq_nil_of_length_eq_zero (h.1.trans hn)⟩
  · obtain ⟨k, hk, g⟩ := exists_min (sq m) m.length (by omega)
    exact .inr ⟨k, hk, ring_uniq h (ring_rot (by omega) (least_min (per_sq m) (by omega) g))⟩
theorem mem_rot {m : List Int} {k : Nat} {e : Int} (h : e ∈ rot m k) : e ∈ m := by
  unfold rot at h
  rw [List.mem_append] at h
  exact h.elim List.mem_of_mem_drop List.mem_of_mem_take
/-- the ring of a word is a word, and its own ring -/
theorem ringw_self {w r : List Int} (hw : Nf w) (h : RingW w r) : Nf r ∧ RingW r r ∧ (∀ e, e ∈ r → e ∈ w) ∧ r.length ≤ w.length := by
  obtain ⟨c, m, h1, h2⟩ := h
  have hl := congrArg List.length h1.1
  rw [List.length_append, List.length_append] at hl
  have hl2 := h2.1
  rcases ring_is h2 with ⟨rfl, rfl⟩ | ⟨k, hk, rfl⟩
  · exact ⟨True.intro, ⟨[], [], spl_nil, h2⟩, (fun e he => nomatch he), Nat.zero_le _⟩
  · have hn : w ≠ [] := fun q => by
      obtain ⟨_, rfl⟩ := h1.2.1 q
      simp at hk
    obtain ⟨e1, e2⟩ := cr_rot (nf_mid (h1.1 ▸ hw)) (h1.2.2 hn) k hk
    exact ⟨e1, ⟨[], _, spl_of (by simp [opp]) e2, h2.self⟩, fun e he => by rw [h1.1]; simp [mem_rot he], by omega⟩
/-- the word between -/
theorem between_ok {one other c1 m1 c2 m2 : List Int} {k : Nat} (s1 : Spl one c1 m1) (s2 : Spl other c2 m2) (hn : Nf other) (h : rot m1 k = m2) :
    red (red (c2 ++ opp (m1.take k) ++ opp c1) ++ one ++ opp (red (c2 ++ opp (m1.take k) ++ opp c1))) = other := by
  generalize eA : c2 ++ opp (m1.take k) ++ opp c1 = A
  have : red (red A ++ one ++ opp (red A)) = red (A ++ one ++ opp A) := by
    rw [opp_red, red_app_r, List.append_assoc, red_app_l, ← List.append_assoc]
  rw [this, ← eA, s1.1, ← red_id hn, s2.1, ← h]
  have e := (List.take_append_drop k m1).symm
  unfold rot
  generalize m1.take k = t at e ⊢
  generalize m1.drop k = d at e ⊢
  rw [e]
  refine red_congr ?_
  have n0 : Nf (act c2 []) := Nf.of_act c2
  simp only [opp_app, opp_opp, act_app]
  rw [opp_act c1 (act_nf _ n0), opp_act t n0, opp_act c1 (act_nf _ n0)]
theorem rot_rot {m : List Int} {i j : Nat} {u : List Int} (hm : m ≠ []) (hi : i < m.length) (hj : j < u.length) (hl : u.length = m.length) (h : rot m i = rot u j) (k : Nat) (hk : (k : Int) = ((i : Int) - (j : Int)) % (m.length : Int)) : rot m k = u := by
  have hp : 0 < m.length := List.length_pos_iff.mpr hm
  have hk2 : k < m.length := by
    have := Int.emod_lt_of_pos ((i : Int) - j) (show (0 : Int) < m.length by omega)
    omega
  have hk3 : k + j = i ∨ k + j = i + m.length := by
    by_cases q : j ≤ i
    · left
      have : ((i : Int) - j) % (m.length : Int) = (i : Int) - j := Int.emod_eq_of_lt (by omega) (by omega)
      omega
    · right
      have : ((i : Int) - j) % (m.length : Int) = (i : Int) - j + m.length := by
        rw [← Int.add_emod_right]
        exact Int.emod_eq_of_lt (by omega) (by omega)
      omega
  have hs : ∀ z, sq m (i + z) = sq u (j + z) := fun z => by rw [← rot_sq (by omega) z, h, rot_sq (by omega) z]
  have hs2 : ∀ z, sq m (k + j + z) = sq u (j + z) := fun z => by
    rcases hk3 with q | q
    · rw [q]; exact hs z
    · rw [q, show i + m.length + z = i + z + m.length by omega, per_sq m]; exact hs z
  refine list_ext (by rw [rot_len, hl]) fun z hz => ?_
  rw [rot_len] at hz
  rw [rot_at (by omega) hz, ← sq_self (by omega : z < u.length)]
  by_cases q : j ≤ z
  · have := hs2 (z - j)
    rw [show k + j + (z - j) = k + z by omega, show j + (z - j) = z by omega] at this
    exact this
  · have := hs2 (z + m.length - j)
    rw [show k + j + (z + m.length - j) = k + z + m.length by omega, per_sq m, show j + (z + m.length - j) = z + u.length by omega, per_sq u] at this
    exact this
end Rg

namespace N0
open PySem PySem.Spec PyProof.Rows L2 HT
/-! the least of a list of tuples of numbers -/
section
variable {K : PySem.W.Frag} {X : Cx}
def tupD (ns : List Int) : PyData := .tuple (ns.map .int)
def rMinT (K : PySem.W.Frag) : List V → Hp → VK → Prop := fun vs H Q => ∃ (a : Addr) (xs : List V) (ts : List (List Int)), vs = [V.ref a] ∧ SqL K H a xs ∧ DpAll K H xs (ts.map tupD) ∧ 0 < ts.length ∧
  ∀ (i : Nat) (v : V) (ns : List Int), xs[i]? = some v → ts[i]? = some ns → (∀ ms, ms ∈ ts → HT.lexLt ms ns = false) → Q v H
theorem listLt_lex : ∀ x y : List Int, PySem.W.listLt x y = HT.lexLt x y
  | [], [] => rfl
  | [], _ :: _ => rfl
  | _ :: _, [] => rfl
  | x :: xs, y :: ys => by
    show (if x = y then PySem.W.listLt xs ys else decide (x < y)) = if x = y then HT.lexLt xs ys else decide (x < y)
    rw [listLt_lex]
theorem minOf_spec {α : Type} [DecidableEq α] [PySem.W.DatumOrd α] : ∀ (x : α) (xs : List α), PySem.W.minOf x xs ∈ x :: xs := fun x xs => by
  unfold PySem.W.minOf
  induction xs generalizing x with
  | nil => exact List.mem_singleton_self x
  | cons y ys ih =>
    rw [List.foldl_cons]
    by_cases h : PySem.W.DatumOrd.lt y x = true
    · rw [if_pos h]
      exact List.mem_cons_of_mem _ (ih y)
    · rw [if_neg h]
      have := ih x
      rw [List.mem_cons] at this ⊢
      rcases this with q | q
      · exact .inl q
      · exact .inr (List.mem_cons_of_mem _ q)
theorem lex_irr : ∀ x : List Int, HT.lexLt x x = false
  | [] => rfl
  | x :: xs => by rw [HT.lexLt_cons, if_pos rfl, lex_irr]
theorem lex_asy : ∀ x y : List Int, HT.lexLt x y = true → HT.lexLt y x = false
  | [], [], h => by cases h
  | [], _ :: _, _ => rfl
  | _ :: _, [], h => by cases h
  | x :: xs, y :: ys, h => by
    rw [HT.lexLt_cons] at h ⊢
    by_cases q : x = y
    · rw [if_pos q] at h
      rw [if_pos q.symm]
      exact lex_asy xs ys h
    · rw [if_neg q] at h
      rw [if_neg (Ne.symm q)]
      have := of_decide_eq_true h
      exact decide_eq_false (by omega)
theorem lex_ntr : ∀ x y z : List Int, HT.lexLt x y = false → HT.lexLt y z = false → HT.lexLt x z = false
  | [], [], z, _, h => h
  | [], _ :: _, _, h, _ => by cases h
  | _ :: _, _, [], _, _ => rfl
  | _ :: _, [], _ :: _, _, h => by cases h
  | x :: xs, y :: ys, z :: zs, h1, h2 => by
    rw [HT.lexLt_cons] at h1 h2 ⊢
    by_cases q1 : x = y
    · rw [if_pos q1] at h1
      by_cases q2 : y = z
      · rw [if_pos q2] at h2
        rw [if_pos (q1.trans q2)]
        exact lex_ntr xs ys zs h1 h2
      · rw [if_neg q2] at h2
        subst q1
        rw [if_neg q2]
        exact h2
    · rw [if_neg q1] at h1
      have := of_decide_eq_false h1
      by_cases q2 : y = z
      · subst q2
        rw [if_neg q1]
        exact h1
      · rw [if_neg q2] at h2
        have := of_decide_eq_false h2
        rw [if_neg (by omega)]
        exact decide_eq_false (by omega)
theorem min_fold (lt : List Int → List Int → Bool) (hl : lt = HT.lexLt) : ∀ (x : List Int) (xs : List (List Int)), (∀ m, m ∈ x :: xs → HT.lexLt m (xs.foldl (fun a y => if lt y a = true then y else a) x) = false) := by
  subst hl
  intro x xs
  induction xs generalizing x with
  | nil =>
    intro m hm
    rw [List.mem_singleton] at hm
    subst hm
    exact lex_irr m
  | cons y ys ih =>
    intro m hm
    rw [List.foldl_cons]
    by_cases h : HT.lexLt y x = true
    · rw [if_pos h]
      rcases List.mem_cons.mp hm with q | q
      · subst q
        exact lex_ntr _ _ _ (lex_asy _ _ h) (ih y y List.mem_cons_self)
      · exact ih y m q
    · rw [if_neg h]
      have h : HT.lexLt y x = false := by cases e : HT.lexLt y x with | true => exact absurd e h | false => rfl
      rcases List.mem_cons.mp hm with q | q
      · subst q
        exact ih m m List.mem_cons_self
      · rcases List.mem_cons.mp q with q | q
        · subst q
          exact lex_ntr _ _ _ h (ih x x List.mem_cons_self)
        · exact ih x m (List.mem_cons_of_mem _ q)
theorem map_int_inj : ∀ x y : List Int, x.map PyData.int = y.map PyData.int → x = y
  | [], [], _ => rfl
  | [], _ :: _, h => nomatch h
  | _ :: _, [], h => nomatch h
  | x :: xs, y :: ys, h => by
    rw [List.map_cons, List.map_cons] at h
    injection h with h1 h2
    injection h1 with h3
    rw [h3, map_int_inj xs ys h2]
theorem minOf_items (x : List Int) (xs : List (List Int)) : (PySem.W.minOf (PySem.W.Tup.mk x) (xs.map PySem.W.Tup.mk)).items = xs.foldl (fun a y => if HT.lexLt y a = true then y else a) x := by
  unfold PySem.W.minOf
  induction xs generalizing x with
  | nil => rfl
  | cons y ys ih =>
    rw [List.map_cons, List.foldl_cons, List.foldl_cons]
    have e : PySem.W.DatumOrd.lt (PySem.W.Tup.mk y) (PySem.W.Tup.mk x) = HT.lexLt y x := listLt_lex y x
    rw [e]
    by_cases h : HT.lexLt y x = true
    · rw [if_pos h, if_pos h]; exact ih y
    · rw [if_neg h, if_neg h]; exact ih x
theorem canLay_tup (ns : List Int) : (tupD ns).canLay0 = true := canLay_ints ns
theorem vals_at : ∀ {xs : List V} {us : List Value} {i : Nat} {u : Value}, Vals xs us → us[i]? = some u → ∃ v, xs[i]? = some v ∧ RelV v u := fun {xs us i u} h hu => by
  induction h generalizing i with
  | nil => cases hu
  | cons r t ih =>
    cases i with
    | zero => cases hu; exact ⟨_, rfl, r⟩
    | succ i => exact ih hu
theorem cr_minT (hc : X.calm = true) (hu : X.A.units + 64 < cLine) : CallR X (.builtin "min") (rMinT X.K) := by
  intro pins s σ H vs us Q I r h
  obtain ⟨a, xs, ts, rfl, hs, hd, hp, q⟩ := h
  obtain ⟨its, rv, hl, _⟩ := I.list hs
  rw [Vals.ref1 r]
  obtain ⟨as, ra⟩ := Dp.readsAll I _ _ _ hd rv
  cases ts with
  | nil => exact absurd hp (Nat.lt_irrefl _)
  | cons t0 ts =>
    have e0 : (t0 :: ts).map tupD = ((PySem.W.Tup.mk t0) :: ts.map PySem.W.Tup.mk).map PySem.W.Datum.toD := by
      rw [List.map_cons, List.map_cons, List.map_map]
      rfl
    refine PySem.W.min_list_datum (α := PySem.W.Tup Int) (I.ok.hd hc) hl.isList ⟨as, by rw [← e0]; exact ra⟩ (by show X.A.units + 1 + (0 + 1) < cLine; omega) fun i v h' tk hi hv hk => ?_
    obtain ⟨y, hy, ry⟩ := vals_at rv (by rw [← Array.getElem?_toList] at hi; exact hi)
    obtain ⟨bs, rb, hlt, _, _⟩ := PySem.W.readsAll_atA (vs := its.toArray) ra i v hi
    obtain ⟨cs, rc⟩ := hv
    rw [List.length_map] at hlt
    have hg : ((t0 :: ts).map tupD).getD i .none = tupD ((t0 :: ts).getD i []) := by
      rw [List.getD_eq_getElem?_getD, List.getD_eq_getElem?_getD, List.getElem?_map, List.getElem?_eq_getElem hlt]
      rfl
    rw [hg] at rb
    have hu := PySem.SeqAt.Reads.unique _ _ v _ _ (canLay_tup _) (Reads.keeps hk rb) rc
    have hm := minOf_items t0 ts
    refine ⟨y, H, I.kept hk, ry, q i y ((t0 :: ts).getD i []) hy (by rw [List.getD_eq_getElem?_getD, List.getElem?_eq_getElem hlt]; rfl) fun ms hms => ?_⟩
    have he : (t0 :: ts).getD i [] = ts.foldl (fun a y => if HT.lexLt y a = true then y else a) t0 := by
      have h2 : tupD ((t0 :: ts).getD i []) = tupD (PySem.W.minOf (PySem.W.Tup.mk t0) (ts.map PySem.W.Tup.mk)).items := hu
      rw [hm] at h2
      injection h2 with h3
      exact map_int_inj _ _ h3
    rw [he]
    exact min_fold _ rfl t0 ts ms hms
theorem kcr_minT (hc : X.calm = true) (hu : X.A.units + 64 < cLine) (h : X.K = K := by rfl) : CallR X (.builtin "min") (rMinT K) := h ▸ cr_minT hc hu
end
end N0

namespace N0
open PySem PySem.Spec PyProof.Rows L2 HT
/-! displays of data, and statements that compare them -/
section
variable {K : PySem.W.Frag} {H H1 : Hp} {σ : L2.St}
theorem same_lst {a : Addr} {xs : List V} (e : Same H H1) (h : SqL K H a xs) : SqL K H1 a xs := (Rs.same (S := none) True.intro e).lst (fun q => nomatch q) h
mutual
theorem dp_same (e : Same H H1) : ∀ (d : PyData) (v : V), Dp K H v d → Dp K H1 v d
  | .none, _, .non => .non
  | .bool _, _, .bl b => .bl b
  | .int _, _, .int i => .int i
  | .str _, _, .str x => .str x
  | .list ds, _, .lst h t => .lst (same_lst e h) (dpa_same e ds _ t)
  | .tuple ds, _, .tup h t => .tup (same_tup e h) (dpa_same e ds _ t)
theorem dpa_same (e : Same H H1) : ∀ (ds : List PyData) (vs : List V), DpAll K H vs ds → DpAll K H1 vs ds
  | [], _, .nil => .nil
  | d :: ds, _, .cons h t => .cons (dp_same e d _ h) (dpa_same e ds _ t)
end
theorem dpa_len : ∀ {vs : List V} {ds : List PyData}, DpAll K H vs ds → vs.length = ds.length
  | _, _, .nil => rfl
  | _, _, .cons _ t => congrArg (· + 1) (dpa_len t)
theorem dp_int_inv {v : V} {i : Int} (h : Dp K H v (.int i)) : v = .int i := by cases h; rfl
theorem dpa_ints : ∀ {vs : List V} {ns : List Int}, DpAll K H vs (ns.map .int) → vs = ns.map V.int
  | vs, [], h => by cases h; rfl
  | vs, n :: ns, h => by
    cases h with
    | cons h t => rw [dp_int_inv h, dpa_ints t]; rfl
abbrev IsD (K : PySem.W.Frag) (d : PyData) : V → Hp → Prop := fun v H => Dp K H v d
def EvD (K : PySem.W.Frag) (ta : TA) (σ : L2.St) (H : Hp) (ds : List PyData) : Prop := ∀ H1, Same H H1 → ∀ Q : List V → Hp → Prop, (∀ vs H2, Same H1 H2 → DpAll K H2 vs ds → Q vs H2) → ta σ H1 Q
theorem ed0 : EvD K tNil σ H [] := fun H1 e Q q => q [] H1 (Same.refl _) .nil
theorem edc {te : TE} {ta : TA} {d : PyData} {ds : List PyData} (h : EvS te σ H (IsD K d)) (h2 : EvD K ta σ H ds) : EvD K (tCons te ta) σ H (d :: ds) := fun H1 e Q q =>
  h H1 e _ fun v H2 e2 hv => h2 H2 (Same.trans e e2) _ fun vs H3 e3 hvs => q _ _ (Same.trans e2 e3) (.cons (dp_same e3 _ _ hv) hvs)
theorem es_tup {ta : TA} {ds : List PyData} (h : EvD K ta σ H ds) (hl : ds.length ≤ 1000) : EvS (tTup ta) σ H (IsD K (.tuple ds)) := fun H1 e Q q =>
  h H1 e _ fun vs H2 e2 hvs => ⟨Nat.le_of_lt (small1000 (by rw [dpa_len hvs]; omega)), fun p hp => q _ _ (Same.trans e2 (new_same hp)) (.tup (tup_of upd_same) (dpa_same (new_same hp) _ _ hvs))⟩
theorem es_lst {ta : TA} {ds : List PyData} (h : EvD K ta σ H ds) (hl : ds.length ≤ 1000) : EvS (tLst ta) σ H (IsD K (.list ds)) := fun H1 e Q q =>
  h H1 e _ fun vs H2 e2 hvs => ⟨Nat.le_of_lt (small1000 (by rw [dpa_len hvs]; omega)), fun p hp => q _ _ (Same.trans e2 (new_same hp)) (.lst (lst_of upd_same) (dpa_same (new_same hp) _ _ hvs))⟩
theorem es_int (i : Int) : EvS (tC (.int i)) σ H (IsD K (.int i)) := evs_c fun _ _ => .int i
theorem es_bl (b : Bool) : EvS (tC (.bl b)) σ H (IsD K (.bool b)) := evs_c fun _ _ => .bl b
theorem es_neg (i : Int) : EvS (tUn (rU fun i => V.int (-i)) (tC (.int i))) σ H (IsD K (.int (-i))) := fun H1 e Q q => ⟨i, rfl, q _ _ (Same.refl _) (.int (-i))⟩
/-- a display of numbers is a row of numbers -/
theorem es_row {te : TE} (ns : List Int) (h : EvS te σ H (IsD K (.tuple (ns.map .int)))) : EvS te σ H (IsI K ns) := fun H1 e Q q => h H1 e _ fun v H2 e2 hv => by
  cases hv with
  | tup ha hd => rw [dpa_ints hd] at ha; exact q _ _ e2 ⟨_, rfl, ha⟩
theorem row_es {te : TE} {ns : List Int} (h : EvS te σ H (IsI K ns)) : EvS te σ H (IsD K (.tuple (ns.map .int))) := fun H1 e Q q => h H1 e _ fun v H2 e2 ⟨a, ev, ha⟩ => q v H2 e2 (ev ▸ dp_tup ha)
theorem es_var {i : Nat} {v : V} {d : PyData} (hv : σ[i]? = some (some v)) (h : Dp K H v d) : EvS (tVar i) σ H (IsD K d) := evs_var hv fun H1 e => dp_same e _ _ h
theorem ifne_seq {ta tb : TE} {t x : TS} {D : Ends} {d e : PyData} (h1 : EvS ta σ H (IsD K d)) (h2 : EvS tb σ H (IsD K e)) (s1 : SeqAt.shaped d = true) (s2 : SeqAt.shaped e = true) (he : PyData.eqv d e = true) (rest : ∀ H', Same H H' → x D σ H') :
    tSeq (tIfS (tTest (tOp (rNeD K) ta tb)) t tNext) x D σ H :=
  h1 H (Same.refl _) _ fun v H1 e1 hv => h2 H1 e1 _ fun u H2 e2 hu => ⟨d, e, dp_same e2 _ _ hv, hu, s1, s2, _, rfl, by rw [he]; exact rest _ (Same.trans e1 e2)⟩
theorem ifne2_seq {ta tb tc td : TE} {t x : TS} {D : Ends} {d e d' e' : PyData} (h1 : EvS ta σ H (IsD K d)) (h2 : EvS tb σ H (IsD K e)) (s1 : SeqAt.shaped d = true) (s2 : SeqAt.shaped e = true) (he : PyData.eqv d e = true)
    (g1 : EvS tc σ H (IsD K d')) (g2 : EvS td σ H (IsD K e')) (q1 : SeqAt.shaped d' = true) (q2 : SeqAt.shaped e' = true) (qe : PyData.eqv d' e' = true) (rest : ∀ H', Same H H' → x D σ H') :
    tSeq (tIfS (tOr (tTest (tOp (rNeD K) ta tb)) (tTest (tOp (rNeD K) tc td))) t tNext) x D σ H :=
  h1 H (Same.refl _) _ fun v H1 e1 hv => h2 H1 e1 _ fun u H2 e2 hu => ⟨d, e, dp_same e2 _ _ hv, hu, s1, s2, _, rfl, by
    rw [he]
    exact g1 H2 (Same.trans e1 e2) _ fun v' H3 e3 hv' => g2 H3 (Same.trans (Same.trans e1 e2) e3) _ fun u' H4 e4 hu' => ⟨d', e', dp_same e4 _ _ hv', hu', q1, q2, _, rfl, by rw [qe]; exact rest _ (Same.trans (Same.trans (Same.trans e1 e2) e3) e4)⟩⟩
theorem asg_seq {te : TE} {i : Nat} {x : TS} {D : Ends} {P : V → Hp → Prop} (h : EvS te σ H P) (rest : ∀ v H', Same H H' → P v H' → x D (σ.set i (some v)) H') : tSeq (tAsg te (gName i)) x D σ H :=
  h H (Same.refl _) _ fun v H1 e1 hv => rest v H1 e1 hv
/-- a condition of which it is known what it gives -/
def EvB (t : TT) (σ : L2.St) (H : Hp) (b : Bool) : Prop := ∀ H1, Same H H1 → ∀ Q : Bool → Hp → Prop, (∀ H2, Same H1 H2 → Q b H2) → t σ H1 Q
theorem ifno_seq {c : TT} {t x : TS} {D : Ends} (h : EvB c σ H false) (rest : ∀ H', Same H H' → x D σ H') : tSeq (tIfS c t tNext) x D σ H := h H (Same.refl _) _ fun H2 e => rest H2 e
theorem eb_or {c d : TT} (h : EvB c σ H false) (g : EvB d σ H false) : EvB (tOr c d) σ H false := fun H1 e Q q => h H1 e _ fun H2 e2 => g H2 (Same.trans e e2) _ fun H3 e3 => q H3 (Same.trans e2 e3)
theorem eb_b {te : TE} {b : Bool} (h : EvS te σ H fun v _ => v = .bl b) : EvB (tB te) σ H b := fun H1 e Q q => h H1 e _ fun v H2 e2 ev => ⟨b, ev, q H2 e2⟩
theorem knotIn {X : Cx} (h : X.K = K := by rfl) : OpR X (compareOp .NotIn) (rIn K true) := h ▸ op_notIn_seq
end
end N0

namespace Pr
open PySem L2 N0
/-! ### the text by places -/
def topS (i : Nat) : Stmt := PySem.Challenge.pw_noroadback_k03_whole_rings_and_words_bet.main.body.getD i (.Pass ⟨0, 0, 0, 0⟩)
abbrev st_is_integer : Stmt := topS 1
abbrev nm_is_integer : List Str := ["value"]
theorem sc_is_integer : FnScope nm_is_integer ["value"] (defScope st_is_integer) := ⟨rfl, rfl, rfl, by decide +kernel, rfl, by decide +kernel, by decide +kernel⟩
abbrev st_is_within : Stmt := topS 2
abbrev nm_is_within : List Str := ["value", "least", "most"]
theorem sc_is_within : FnScope nm_is_within ["value", "least", "most"] (defScope st_is_within) := ⟨rfl, rfl, rfl, by decide +kernel, rfl, by decide +kernel, by decide +kernel⟩
abbrev st_reduced : Stmt := topS 4
abbrev nm_reduced : List Str := ["row", "kept", "entry"]
theorem sc_reduced : FnScope nm_reduced ["row"] (defScope st_reduced) := ⟨rfl, rfl, rfl, by decide +kernel, rfl, by decide +kernel, by decide +kernel⟩
abbrev st_is_reduced : Stmt := topS 5
abbrev nm_is_reduced : List Str := ["row", "place"]
theorem sc_is_reduced : FnScope nm_is_reduced ["row"] (defScope st_is_reduced) := ⟨rfl, rfl, rfl, by decide +kernel, rfl, by decide +kernel, by decide +kernel⟩
abbrev st_product_of : Stmt := topS 6
abbrev nm_product_of : List Str := ["rows", "row", "entry"]
theorem sc_product_of : FnScope nm_product_of ["rows"] (defScope st_product_of) := ⟨rfl, rfl, rfl, by decide +kernel, rfl, by decide +kernel, by decide +kernel⟩
abbrev st_times : Stmt := topS 7
abbrev nm_times : List Str := ["one", "other", "most", "struck"]
theorem sc_times : FnScope nm_times ["one", "other"] (defScope st_times) := ⟨rfl, rfl, rfl, by decide +kernel, rfl, by decide +kernel, by decide +kernel⟩
abbrev st_opposite : Stmt := topS 8
abbrev nm_opposite : List Str := ["row", "entry"]
theorem sc_opposite : FnScope nm_opposite ["row"] (defScope st_opposite) := ⟨rfl, rfl, rfl, by decide +kernel, rfl, by decide +kernel, by decide +kernel⟩
abbrev st_split_core : Stmt := topS 9
abbrev nm_split_core : List Str := ["row", "size", "depth"]
theorem sc_split_core : FnScope nm_split_core ["row"] (defScope st_split_core) := ⟨rfl, rfl, rfl, by decide +kernel, rfl, by decide +kernel, by decide +kernel⟩
abbrev st_rotated : Stmt := topS 10
abbrev nm_rotated : List Str := ["row", "start"]
theorem sc_rotated : FnScope nm_rotated ["row", "start"] (defScope st_rotated) := ⟨rfl, rfl, rfl, by decide +kernel, rfl, by decide +kernel, by decide +kernel⟩
abbrev st_least_start : Stmt := topS 11
abbrev nm_least_start : List Str := ["row", "size", "first", "second", "agreed", "one", "other"]
theorem sc_least_start : FnScope nm_least_start ["row"] (defScope st_least_start) := ⟨rfl, rfl, rfl, by decide +kernel, rfl, by decide +kernel, by decide +kernel⟩
abbrev st_ring_of : Stmt := topS 12
abbrev nm_ring_of : List Str := ["row", "middle"]
theorem sc_ring_of : FnScope nm_ring_of ["row"] (defScope st_ring_of) := ⟨rfl, rfl, rfl, by decide +kernel, rfl, by decide +kernel, by decide +kernel⟩
abbrev st_turning : Stmt := topS 13
abbrev nm_turning : List Str := ["one", "other", "one_head", "one_core", "other_head", "other_core", "place"]
theorem sc_turning : FnScope nm_turning ["one", "other"] (defScope st_turning) := ⟨rfl, rfl, rfl, by decide +kernel, rfl, by decide +kernel, by decide +kernel⟩
abbrev st_turned_row : Stmt := topS 14
abbrev nm_turned_row : List Str := ["row", "by"]
theorem sc_turned_row : FnScope nm_turned_row ["row", "by"] (defScope st_turned_row) := ⟨rfl, rfl, rfl, by decide +kernel, rfl, by decide +kernel, by decide +kernel⟩
abbrev st_check_letters : Stmt := topS 22
abbrev nm_check_letters : List Str := ["letters"]
theorem sc_check_letters : FnScope nm_check_letters ["letters"] (defScope st_check_letters) := ⟨rfl, rfl, rfl, by decide +kernel, rfl, by decide +kernel, by decide +kernel⟩
abbrev st_check_word : Stmt := topS 23
abbrev nm_check_word : List Str := ["letters", "word"]
theorem sc_check_word : FnScope nm_check_word ["letters", "word"] (defScope st_check_word) := ⟨rfl, rfl, rfl, by decide +kernel, rfl, by decide +kernel, by decide +kernel⟩
abbrev st_check_words : Stmt := topS 24
abbrev nm_check_words : List Str := ["letters", "words", "word"]
theorem sc_check_words : FnScope nm_check_words ["letters", "words"] (defScope st_check_words) := ⟨rfl, rfl, rfl, by decide +kernel, rfl, by decide +kernel, by decide +kernel⟩
abbrev st_is_row : Stmt := topS 25
abbrev nm_is_row : List Str := ["letters", "value", "most", "entry"]
theorem sc_is_row : FnScope nm_is_row ["letters", "value", "most"] (defScope st_is_row) := ⟨rfl, rfl, rfl, by decide +kernel, rfl, by decide +kernel, by decide +kernel⟩
abbrev st_is_bare_row : Stmt := topS 26
abbrev nm_is_bare_row : List Str := ["letters", "value", "most"]
theorem sc_is_bare_row : FnScope nm_is_bare_row ["letters", "value", "most"] (defScope st_is_bare_row) := ⟨rfl, rfl, rfl, by decide +kernel, rfl, by decide +kernel, by decide +kernel⟩
abbrev st_core : Stmt := topS 29
abbrev nm_core : List Str := ["letters", "word"]
theorem sc_core : FnScope nm_core ["letters", "word"] (defScope st_core) := ⟨rfl, rfl, rfl, by decide +kernel, rfl, by decide +kernel, by decide +kernel⟩
abbrev st_ring : Stmt := topS 30
abbrev nm_ring : List Str := ["letters", "word"]
theorem sc_ring : FnScope nm_ring ["letters", "word"] (defScope st_ring) := ⟨rfl, rfl, rfl, by decide +kernel, rfl, by decide +kernel, by decide +kernel⟩
abbrev st_is_ring : Stmt := topS 31
abbrev nm_is_ring : List Str := ["letters", "value"]
theorem sc_is_ring : FnScope nm_is_ring ["letters", "value"] (defScope st_is_ring) := ⟨rfl, rfl, rfl, by decide +kernel, rfl, by decide +kernel, by decide +kernel⟩
abbrev st_turned : Stmt := topS 32
abbrev nm_turned : List Str := ["letters", "word", "by"]
theorem sc_turned : FnScope nm_turned ["letters", "word", "by"] (defScope st_turned) := ⟨rfl, rfl, rfl, by decide +kernel, rfl, by decide +kernel, by decide +kernel⟩
abbrev st_are_alike : Stmt := topS 33
abbrev nm_are_alike : List Str := ["letters", "one", "other"]
theorem sc_are_alike : FnScope nm_are_alike ["letters", "one", "other"] (defScope st_are_alike) := ⟨rfl, rfl, rfl, by decide +kernel, rfl, by decide +kernel, by decide +kernel⟩
abbrev st_between : Stmt := topS 34
abbrev nm_between : List Str := ["letters", "one", "other"]
theorem sc_between : FnScope nm_between ["letters", "one", "other"] (defScope st_between) := ⟨rfl, rfl, rfl, by decide +kernel, rfl, by decide +kernel, by decide +kernel⟩
abbrev st_is_between : Stmt := topS 35
abbrev nm_is_between : List Str := ["letters", "one", "other", "value"]
theorem sc_is_between : FnScope nm_is_between ["letters", "one", "other", "value"] (defScope st_is_between) := ⟨rfl, rfl, rfl, by decide +kernel, rfl, by decide +kernel, by decide +kernel⟩
abbrev st__law_sack : Stmt := topS 37
abbrev nm__law_sack : List Str := ["script", "spot", "cell", "great"]
theorem sc__law_sack : FnScope nm__law_sack ["script", "spot"] (defScope st__law_sack) := ⟨rfl, rfl, rfl, by decide +kernel, rfl, by decide +kernel, by decide +kernel⟩
abbrev st__law_drawn : Stmt := topS 38
abbrev nm__law_drawn : List Str := ["sack", "total", "found", "one", "two"]
theorem sc__law_drawn : FnScope nm__law_drawn ["sack", "total"] (defScope st__law_drawn) := ⟨rfl, rfl, rfl, by decide +kernel, rfl, by decide +kernel, by decide +kernel⟩
abbrev st__law_bare : Stmt := topS 39
abbrev nm__law_bare : List Str := ["row", "found", "entry"]
theorem sc__law_bare : FnScope nm__law_bare ["row"] (defScope st__law_bare) := ⟨rfl, rfl, rfl, by decide +kernel, rfl, by decide +kernel, by decide +kernel⟩
abbrev st__law_back : Stmt := topS 40
abbrev nm__law_back : List Str := ["word", "entry"]
theorem sc__law_back : FnScope nm__law_back ["word"] (defScope st__law_back) := ⟨rfl, rfl, rfl, by decide +kernel, rfl, by decide +kernel, by decide +kernel⟩
abbrev st__law_core : Stmt := topS 41
abbrev nm__law_core : List Str := ["word", "found", "turn"]
theorem sc__law_core : FnScope nm__law_core ["word"] (defScope st__law_core) := ⟨rfl, rfl, rfl, by decide +kernel, rfl, by decide +kernel, by decide +kernel⟩
abbrev st__law_ring : Stmt := topS 42
abbrev nm__law_ring : List Str := ["word", "inner", "at"]
theorem sc__law_ring : FnScope nm__law_ring ["word"] (defScope st__law_ring) := ⟨rfl, rfl, rfl, by decide +kernel, rfl, by decide +kernel, by decide +kernel⟩
abbrev st__law_word : Stmt := topS 43
abbrev nm__law_word : List Str := ["sack", "letters", "most", "row", "turn"]
theorem sc__law_word : FnScope nm__law_word ["sack", "letters", "most"] (defScope st__law_word) := ⟨rfl, rfl, rfl, by decide +kernel, rfl, by decide +kernel, by decide +kernel⟩
abbrev st__law_is_due : Stmt := topS 44
abbrev nm__law_is_due : List Str := ["letters", "one", "other", "value", "e"]
theorem sc__law_is_due : FnScope nm__law_is_due ["letters", "one", "other", "value"] (defScope st__law_is_due) := ⟨rfl, rfl, rfl, by decide +kernel, rfl, by decide +kernel, by decide +kernel⟩
abbrev st__law_near : Stmt := topS 45
abbrev nm__law_near : List Str := ["sack", "letters", "one", "other", "told", "found"]
theorem sc__law_near : FnScope nm__law_near ["sack", "letters", "one", "other", "told"] (defScope st__law_near) := ⟨rfl, rfl, rfl, by decide +kernel, rfl, by decide +kernel, by decide +kernel⟩
abbrev st__law_right : Stmt := topS 46
abbrev nm__law_right : List Str := ["sack", "letters", "one", "by", "other", "inner", "ahead", "made", "due", "told", "value"]
theorem sc__law_right : FnScope nm__law_right ["sack"] (defScope st__law_right) := ⟨rfl, rfl, rfl, by decide +kernel, rfl, by decide +kernel, by decide +kernel⟩
abbrev st_law : Stmt := topS 47
abbrev nm_law : List Str := ["script", "spot", "told", "long"]
theorem sc_law : FnScope nm_law ["script"] (defScope st_law) := ⟨rfl, rfl, rfl, by decide +kernel, rfl, by decide +kernel, by decide +kernel⟩
/-- what the top leaves -/
structure Txt (K : PySem.W.Frag) (mg : Str → Option Value) : Prop where
  f_is_integer : ∃ (f : Addr) (fd : FuncData), Fun K "is_integer" "is_integer" st_is_integer f fd ∧ mg "is_integer" = some (.ref f) ∧ Binds K fd ["value"] []
  f_is_within : ∃ (f : Addr) (fd : FuncData), Fun K "is_within" "is_within" st_is_within f fd ∧ mg "is_within" = some (.ref f) ∧ Binds K fd ["value", "least", "most"] []
  f_reduced : ∃ (f : Addr) (fd : FuncData), Fun K "reduced" "reduced" st_reduced f fd ∧ mg "reduced" = some (.ref f) ∧ Binds K fd ["row"] []
  f_is_reduced : ∃ (f : Addr) (fd : FuncData), Fun K "is_reduced" "is_reduced" st_is_reduced f fd ∧ mg "is_reduced" = some (.ref f) ∧ Binds K fd ["row"] []
  f_product_of : ∃ (f : Addr) (fd : FuncData), Fun K "product_of" "product_of" st_product_of f fd ∧ mg "product_of" = some (.ref f) ∧ Binds K fd ["rows"] []
  f_times : ∃ (f : Addr) (fd : FuncData), Fun K "times" "times" st_times f fd ∧ mg "times" = some (.ref f) ∧ Binds K fd ["one", "other"] []
  f_opposite : ∃ (f : Addr) (fd : FuncData), Fun K "opposite" "opposite" st_opposite f fd ∧ mg "opposite" = some (.ref f) ∧ Binds K fd ["row"] []
  f_split_core : ∃ (f : Addr) (fd : FuncData), Fun K "split_core" "split_core" st_split_core f fd ∧ mg "split_core" = some (.ref f) ∧ Binds K fd ["row"] []
  f_rotated : ∃ (f : Addr) (fd : FuncData), Fun K "rotated" "rotated" st_rotated f fd ∧ mg "rotated" = some (.ref f) ∧ Binds K fd ["row", "start"] []
  f_least_start : ∃ (f : Addr) (fd : FuncData), Fun K "least_start" "least_start" st_least_start f fd ∧ mg "least_start" = some (.ref f) ∧ Binds K fd ["row"] []
  f_ring_of : ∃ (f : Addr) (fd : FuncData), Fun K "ring_of" "ring_of" st_ring_of f fd ∧ mg "ring_of" = some (.ref f) ∧ Binds K fd ["row"] []
  f_turning : ∃ (f : Addr) (fd : FuncData), Fun K "turning" "turning" st_turning f fd ∧ mg "turning" = some (.ref f) ∧ Binds K fd ["one", "other"] []
  f_turned_row : ∃ (f : Addr) (fd : FuncData), Fun K "turned_row" "turned_row" st_turned_row f fd ∧ mg "turned_row" = some (.ref f) ∧ Binds K fd ["row", "by"] []
  f_check_letters : ∃ (f : Addr) (fd : FuncData), Fun K "check_letters" "check_letters" st_check_letters f fd ∧ mg "check_letters" = some (.ref f) ∧ Binds K fd ["letters"] []
  f_check_word : ∃ (f : Addr) (fd : FuncData), Fun K "check_word" "check_word" st_check_word f fd ∧ mg "check_word" = some (.ref f) ∧ Binds K fd ["letters", "word"] []
  f_check_words : ∃ (f : Addr) (fd : FuncData), Fun K "check_words" "check_words" st_check_words f fd ∧ mg "check_words" = some (.ref f) ∧ Binds K fd ["letters", "words"] []
  f_is_row : ∃ (f : Addr) (fd : FuncData), Fun K "is_row" "is_row" st_is_row f fd ∧ mg "is_row" = some (.ref f) ∧ Binds K fd ["letters", "value", "most"] []
  f_is_bare_row : ∃ (f : Addr) (fd : FuncData), Fun K "is_bare_row" "is_bare_row" st_is_bare_row f fd ∧ mg "is_bare_row" = some (.ref f) ∧ Binds K fd ["letters", "value", "most"] []
  f_core : ∃ (f : Addr) (fd : FuncData), Fun K "core" "core" st_core f fd ∧ mg "core" = some (.ref f) ∧ Binds K fd ["letters", "word"] []
  f_ring : ∃ (f : Addr) (fd : FuncData), Fun K "ring" "ring" st_ring f fd ∧ mg "ring" = some (.ref f) ∧ Binds K fd ["letters", "word"] []
  f_is_ring : ∃ (f : Addr) (fd : FuncData), Fun K "is_ring" "is_ring" st_is_ring f fd ∧ mg "is_ring" = some (.ref f) ∧ Binds K fd ["letters", "value"] []
  f_turned : ∃ (f : Addr) (fd : FuncData), Fun K "turned" "turned" st_turned f fd ∧ mg "turned" = some (.ref f) ∧ Binds K fd ["letters", "word", "by"] []
  f_are_alike : ∃ (f : Addr) (fd : FuncData), Fun K "are_alike" "are_alike" st_are_alike f fd ∧ mg "are_alike" = some (.ref f) ∧ Binds K fd ["letters", "one", "other"] []
  f_between : ∃ (f : Addr) (fd : FuncData), Fun K "between" "between" st_between f fd ∧ mg "between" = some (.ref f) ∧ Binds K fd ["letters", "one", "other"] []
  f_is_between : ∃ (f : Addr) (fd : FuncData), Fun K "is_between" "is_between" st_is_between f fd ∧ mg "is_between" = some (.ref f) ∧ Binds K fd ["letters", "one", "other", "value"] []
  f__law_sack : ∃ (f : Addr) (fd : FuncData), Fun K "_law_sack" "_law_sack" st__law_sack f fd ∧ mg "_law_sack" = some (.ref f) ∧ Binds K fd ["script", "spot"] []
  f__law_drawn : ∃ (f : Addr) (fd : FuncData), Fun K "_law_drawn" "_law_drawn" st__law_drawn f fd ∧ mg "_law_drawn" = some (.ref f) ∧ Binds K fd ["sack", "total"] []
  f__law_bare : ∃ (f : Addr) (fd : FuncData), Fun K "_law_bare" "_law_bare" st__law_bare f fd ∧ mg "_law_bare" = some (.ref f) ∧ Binds K fd ["row"] []
  f__law_back : ∃ (f : Addr) (fd : FuncData), Fun K "_law_back" "_law_back" st__law_back f fd ∧ mg "_law_back" = some (.ref f) ∧ Binds K fd ["word"] []
  f__law_core : ∃ (f : Addr) (fd : FuncData), Fun K "_law_core" "_law_core" st__law_core f fd ∧ mg "_law_core" = some (.ref f) ∧ Binds K fd ["word"] []
  f__law_ring : ∃ (f : Addr) (fd : FuncData), Fun K "_law_ring" "_law_ring" st__law_ring f fd ∧ mg "_law_ring" = some (.ref f) ∧ Binds K fd ["word"] []
  f__law_word : ∃ (f : Addr) (fd : FuncData), Fun K "_law_word" "_law_word" st__law_word f fd ∧ mg "_law_word" = some (.ref f) ∧ Binds K fd ["sack", "letters", "most"] []
  f__law_is_due : ∃ (f : Addr) (fd : FuncData), Fun K "_law_is_due" "_law_is_due" st__law_is_due f fd ∧ mg "_law_is_due" = some (.ref f) ∧ Binds K fd ["letters", "one", "other", "value"] []
  f__law_near : ∃ (f : Addr) (fd : FuncData), Fun K "_law_near" "_law_near" st__law_near f fd ∧ mg "_law_near" = some (.ref f) ∧ Binds K fd ["sack", "letters", "one", "other", "told"] []
  f__law_right : ∃ (f : Addr) (fd : FuncData), Fun K "_law_right" "_law_right" st__law_right f fd ∧ mg "_law_right" = some (.ref f) ∧ Binds K fd ["sack"] []
  c_MAX_LETTERS : ∃ t : Tok, mg "MAX_LETTERS" = some (.int 5 t)
  c_MAX_WORD : ∃ t : Tok, mg "MAX_WORD" = some (.int 200 t)
  c_MAX_BETWEEN : ∃ t : Tok, mg "MAX_BETWEEN" = some (.int 400 t)
  n_abs : mg "abs" = none
  n_all : mg "all" = none
  n_bool : mg "bool" = none
  n_int : mg "int" = none
  n_isinstance : mg "isinstance" = none
  n_len : mg "len" = none
  n_list : mg "list" = none
  n_max : mg "max" = none
  n_min : mg "min" = none
  n_range : mg "range" = none
  n_tuple : mg "tuple" = none
section
variable {P : Program} {w : World} {K : PySem.W.Frag} {mg : Str → Option Value} {base : Heap}
/-! is_integer, is_within -/
def spIsInt (K : PySem.W.Frag) : Sp := fun vs H Q _ => ∃ v o, vs = [v] ∧ En K H v o ∧ Q (.bl o.isSome) H
theorem ok_is_integer {f : Addr} {fd : FuncData} (F : Fun K "is_integer" "is_integer" st_is_integer f fd) (T : Txt K mg) : FnOk P w K mg base CX0 1 f fd ["value"] (spIsInt K) := by
  refine F.ok sc_is_integer (fun vs H Q E h => ?_) (fun cdv A outer s H vs Q E hr h => ?_)
  · obtain ⟨v, o, rfl, _⟩ := h
    rfl
  · obtain ⟨v, o, rfl, en, k⟩ := h
    refine ⟨_, (pss_one (ps_ret (pe_and (pe_callB (kcall_isi (K := K)) (by rfl) T.n_isinstance bo_isinstance (pa_cons (pv 0) (pa_cons (pe_bltn (by rfl) T.n_int bo_int rel_ty) pa_nil))) (pe_one (pe_not (pe_callB (kcall_isi (K := K)) (by rfl) T.n_isinstance bo_isinstance (pa_cons (pv 0) (pa_cons (pe_bltn (by rfl) T.n_bool bo_bool rel_ty) pa_nil)))))))), ?_⟩
    have key : ∀ (t : String) (i b : Bool), TyX K H v (.type t) → kitB t "int" = some i → kitB t "bool" = some b → (i && !b) = o.isSome →
        ∃ v1, (start nm_is_integer [v])[0]? = some (some v1) ∧ rIsi K [v1, .ty "int"] H fun x H1 => ∃ c, x = .bl c ∧ if c = true then (∃ v2, (start nm_is_integer [v])[0]? = some (some v2) ∧ rIsi K [v2, .ty "bool"] H1 fun x H1 => ∃ c, x = .bl c ∧ Q (.bl (!c)) H1) else Q (.bl false) H1 := fun t i b h k1 k2 e => by
      refine ⟨v, rfl, v, _, _, _, i, rfl, .ty _, h, kit_ty k1, i, rfl, ?_⟩
      cases i with
      | false =>
        rw [show o.isSome = false from e.symm] at k
        exact iteF k
      | true => exact iteT ⟨v, rfl, v, _, _, _, b, rfl, .ty _, h, kit_ty k2, b, rfl, by rw [show (!b) = o.isSome from e]; exact k⟩
    cases en with
    | int i => exact key "int" true false (.base (.int i)) (by decide +kernel) (by decide +kernel) rfl
    | oth h k1 k2 k3 => exact key _ _ _ h k1 k2 k3
theorem cl_is_integer (T : Txt K mg) : Cl P w K mg base 1 "is_integer" (spIsInt K) := by
  obtain ⟨f, fd, F, hm, hb⟩ := T.f_is_integer
  exact cl_of (ok_is_integer F T) hm F.kp hb
def spWithin : Sp := fun vs H Q _ => ∃ v l m : Int, vs = [.int v, .int l, .int m] ∧ Q (.bl (decide (l ≤ v ∧ v ≤ m))) H
theorem ok_is_within {f : Addr} {fd : FuncData} (F : Fun K "is_within" "is_within" st_is_within f fd) (T : Txt K mg) : FnOk P w K mg base CX0 2 f fd ["value", "least", "most"] spWithin := by
  have c_is_integer : Cl P w K mg base 1 "is_integer" (spIsInt K) := cl_is_integer T
  refine F.ok sc_is_within (fun vs H Q E h => ?_) (fun cdv A outer s H vs Q E hr h => ?_)
  · obtain ⟨v, l, m, rfl, _⟩ := h
    rfl
  · obtain ⟨v, l, m, rfl, k⟩ := h
    refine ⟨_, (pss_one (ps_ret (pe_and (pe_f c_is_integer hr (by decide) rfl (pa_cons (pv 0) pa_nil)) (pe_one (pe_chain op_le op_le (pv 1) (pv 0) (pv 2)))))), ?_⟩
    refine ⟨.int v, rfl, .int v, some v, rfl, .int v, true, rfl, iteT ⟨.int l, rfl, .int v, rfl, l, v, rfl, rfl, _, rfl, ?_⟩⟩
    refine ite2 (fun h1 => ⟨.int m, rfl, v, m, rfl, rfl, ?_⟩) fun h1 => ?_
    · have h1 := of_decide_eq_true h1
      have e : decide (l ≤ v ∧ v ≤ m) = decide (v ≤ m) := by simp [h1]
      rw [e] at k
      exact k
    · have h1 : ¬ l ≤ v := fun q => h1 (decide_eq_true q)
      have e : decide (l ≤ v ∧ v ≤ m) = false := by simp [h1]
      rw [e] at k
      exact k
theorem cl_is_within (T : Txt K mg) : Cl P w K mg base 2 "is_within" spWithin := by
  obtain ⟨f, fd, F, hm, hb⟩ := T.f_is_within
  exact cl_of (ok_is_within F T) hm F.kp hb
def spChkLetters : Sp := fun vs H Q _ => ∃ n : Int, vs = [.int n] ∧ 1 ≤ n ∧ n ≤ 5 ∧ Q .non H
theorem ok_check_letters {f : Addr} {fd : FuncData} (F : Fun K "check_letters" "check_letters" st_check_letters f fd) (T : Txt K mg) : FnOk P w K mg base CX0 3 f fd ["letters"] spChkLetters := by
  have c_is_within : Cl P w K mg base 2 "is_within" spWithin := cl_is_within T
  refine F.ok sc_check_letters (fun vs H Q E h => ?_) (fun cdv A outer s H vs Q E hr h => ?_)
  · obtain ⟨n, rfl, _⟩ := h
    rfl
  · obtain ⟨n, rfl, h1, h2, k⟩ := h
    refine ⟨_, (pss_one (ps_if (pt_not (pt_val (pe_f c_is_within hr (by decide) rfl (pa_cons (pv 0) (pa_cons pe_int (pa_cons (pe_glob rfl T.c_MAX_LETTERS.choose_spec rel_int) pa_nil)))))) (pss_one ps_never) pss_nil)), ?_⟩
    refine ⟨.int n, rfl, n, 1, 5, rfl, _, rfl, ?_⟩
    rw [decide_eq_true (show 1 ≤ n ∧ n ≤ 5 from ⟨h1, h2⟩)]
    exact iteF k
theorem cl_check_letters (T : Txt K mg) : Cl P w K mg base 3 "check_letters" spChkLetters := by
  obtain ⟨f, fd, F, hm, hb⟩ := T.f_check_letters
  exact cl_of (ok_check_letters F T) hm F.kp hb
def rowV (n m : Int) : Option (List (Option Int)) → Bool
  | some os => rowB n m os
  | none => false
def spIsRow (K : PySem.W.Frag) : Sp := fun vs H Q _ => ∃ (n m : Int) (v : V) (o : Option (List (Option Int))), vs = [.int n, v, .int m] ∧ m ≤ 1000 ∧ Va K H v o ∧ ∀ H', Same H H' → Q (.bl (rowV n m o)) H'
theorem ok_is_row {f : Addr} {fd : FuncData} (F : Fun K "is_row" "is_row" st_is_row f fd) (T : Txt K mg) : FnOk P w K mg base CX0 2 f fd ["letters", "value", "most"] (spIsRow K) := by
  have c_is_integer : Cl P w K mg base 1 "is_integer" (spIsInt K) := cl_is_integer T
  refine F.ok sc_is_row (fun vs H Q E h => ?_) (fun cdv A outer s H vs Q E hr h => ?_)
  · obtain ⟨n, m, v, o, rfl, _⟩ := h
    rfl
  · obtain ⟨n, m, v, o, rfl, hm, va, k⟩ := h
    refine ⟨_, (pss_cons (ps_if (PW.pt (pw_or (pt_not (pt_val (pe_callB (kcall_isi (K := K)) (by rfl) T.n_isinstance bo_isinstance (pa_cons (pv 1) (pa_cons (pe_bltn (by rfl) T.n_tuple bo_tuple rel_ty) pa_nil))))) (pw_or1 (pt_cmpR op_gt (pe_callB (kcall_len (K := K)) (by rfl) T.n_len bo_len (pa_cons (pv 1) pa_nil)) (pv 2) (nomark _))))) (pss_one (ps_ret pe_bl)) pss_nil) (pss_one (ps_ret (pe_callB (kcr_all (K := K) rfl) (by rfl) T.n_all bo_all (pa_cons (pe_lc (own := [("entry", 3)]) rfl sc_is_row.nd (kpi_tup (K := K) (pv 1)) (blkOk_by (N := nm_is_row) (sc := defScope st_is_row) (by decide +kernel)) (fun _ _ _ _ _ => (pg_name (i := 3) sc_is_row.nd rfl (by first | exact Or.inl rfl | exact Or.inr rfl))) (fun _ _ _ _ _ => pts_nil) (fun _ _ _ _ _ => (pe_and (pe_f c_is_integer hr (by decide) rfl (pa_cons (pv 3) pa_nil)) (pe_one (pe_chain op_le op_le pe_int (pe_callB call_abs (by rfl) T.n_abs bo_abs (pa_cons (pv 3) pa_nil)) (pv 0)))))) pa_nil))))), ?_⟩
    cases va with
    | oth h kt =>
      refine ⟨v, rfl, v, _, _, _, false, rfl, .ty _, h, kit_ty kt, false, rfl, ?_⟩
      exact iteT (iteT (k _ (Same.refl _)))
    | @tup a xs os h hl he =>
      refine ⟨.ref a, rfl, .ref a, _, _, _, true, rfl, .ty _, tyx_tup h, kit_ty (by decide +kernel), true, rfl, ?_⟩
      refine iteF ⟨.ref a, rfl, a, xs, rfl, .inr h, .int m, rfl, _, _, rfl, rfl, _, rfl, ?_⟩
      refine ite2 (fun h1 => ?_) fun h1 => ?_
      · have h1 := of_decide_eq_true h1
        have e : rowV n m (some os) = false := by
          show (!decide (m < (os.length : Int)) && os.all (okE n)) = false
          rw [decide_eq_true (by rw [← hl]; exact h1)]
          rfl
        have := k _ (Same.refl _)
        rw [e] at this
        exact this
      · have h1 : ¬ m < (xs.length : Int) := fun q => h1 (decide_eq_true q)
        refine ⟨.ref a, rfl, a, rfl, ⟨xs, h⟩, fun D hD => lc_tup (K := K) (a := a) (xs := xs) (fun i H' => Same H H' ∧ H' D = some (.lst (((os.map (okE n)).take i).map V.bl))) ⟨new_same hD, upd_same⟩ (fun i H' _ p => same_tup p.1 h) (fun i x H' hx p => ?_) fun H' p => ?_⟩
        · refine ⟨rfl, ?_⟩
          have hi : i < xs.length := (List.getElem?_eq_some_iff.mp hx).1
          obtain ⟨o, ho⟩ : ∃ o, os[i]? = some o := ⟨os[i]'(by omega), List.getElem?_eq_getElem _⟩
          have en := (he i x o hx ho).same p.1
          have fin : ∀ H4 : Hp, H4 = H' → ∃ acc, H4 D = some (.lst acc) ∧ acc.length < sizeLine ∧ (Same H (upd H4 D (.lst (acc ++ [V.bl (okE n o)]))) ∧ upd H4 D (.lst (acc ++ [V.bl (okE n o)])) D = some (.lst (((os.map (okE n)).take (i + 1)).map V.bl))) := fun H4 e => by
            subst e
            refine ⟨_, p.2, small1000 ?_, same_mut p.1 hD, ?_⟩
            · rw [List.length_map, List.length_take]
              omega
            · rw [upd_same, List.take_succ, List.getElem?_map, ho, List.map_append]
              rfl
          refine ⟨x, rfl, x, o, rfl, en, o.isSome, rfl, ?_⟩
          cases en with
          | oth h k1 k2 k3 => exact fin _ rfl
          | int i1 =>
            refine ⟨.int i1, rfl, i1, rfl, _, _, rfl, rfl, _, rfl, ?_⟩
            refine ite2 (fun q1 => ⟨.int n, rfl, _, _, rfl, rfl, ?_⟩) fun q1 => ?_
            · have e : okE n (some i1) = decide ((if i1 < 0 then -i1 else i1) ≤ n) := by
                show (decide _ && decide _) = _
                rw [q1]
                rfl
              have := fin _ rfl
              rw [e] at this
              exact this
            · have e : okE n (some i1) = false := by
                show (decide _ && decide _) = _
                rw [show decide (1 ≤ (if i1 < 0 then -i1 else i1)) = false from Bool.eq_false_iff.mpr q1]
                rfl
              have := fin _ rfl
              rw [e] at this
              exact this
        · refine ⟨D, os.map (okE n), rfl, lst_of ?_, ?_⟩
          · rw [p.2, List.take_of_length_le (by rw [List.length_map, hl]; exact Nat.le_refl _)]
          · have e : rowV n m (some os) = (os.map (okE n)).all id := by
              show (!decide (m < (os.length : Int)) && os.all (okE n)) = _
              rw [decide_eq_false (by rw [← hl]; exact h1), List.all_map]
              rfl
            have := k _ p.1
            rw [e] at this
            exact this
theorem cl_is_row (T : Txt K mg) : Cl P w K mg base 2 "is_row" (spIsRow K) := by
  obtain ⟨f, fd, F, hm, hb⟩ := T.f_is_row
  exact cl_of (ok_is_row F T) hm F.kp hb
theorem dec_int (u v : Int) : decide (V.int u = V.int v) = decide (u = v) := by
  by_cases h : u = v
  · subst h
    simp
  · rw [decide_eq_false h]
    exact decide_eq_false fun q => h (V.int.inj q)
theorem at_int {ns : List Int} {z : Int} {j : Nat} (e : z = (j : Int)) (h : j < ns.length) : atI (ns.map V.int) z = some (V.int (ns.getD j 0)) := by
  refine at_of e ?_
  rw [List.getElem?_map, List.getElem?_eq_getElem h, List.getD_eq_getElem?_getD, List.getElem?_eq_getElem h]
  rfl
def spIsReduced (K : PySem.W.Frag) : Sp := fun vs H Q _ => ∃ (a : Addr) (ns : List Int), vs = [.ref a] ∧ SqT K H a (ns.map V.int) ∧ ns.length ≤ 1000 ∧ ∀ H', Same H H' → Q (.bl (nfB ns)) H'
theorem ok_is_reduced {f : Addr} {fd : FuncData} (F : Fun K "is_reduced" "is_reduced" st_is_reduced f fd) (T : Txt K mg) : FnOk P w K mg base CX0 1 f fd ["row"] (spIsReduced K) := by
  refine F.ok sc_is_reduced (fun vs H Q E h => ?_) (fun cdv A outer s H vs Q E hr h => ?_)
  · obtain ⟨a, ns, rfl, _⟩ := h
    rfl
  · obtain ⟨a, ns, rfl, h, hl, k⟩ := h
    refine ⟨_, (pss_one (ps_ret (pe_callB (kcr_all (K := K) rfl) (by rfl) T.n_all bo_all (pa_cons (pe_lc (own := [("place", 1)]) rfl sc_is_reduced.nd (pi_range2 rfl T.n_range (pa_cons pe_int (pa_cons (pe_callB (kcall_len (K := K)) (by rfl) T.n_len bo_len (pa_cons (pv 0) pa_nil)) pa_nil))) (blkOk_by (N := nm_is_reduced) (sc := defScope st_is_reduced) (by decide +kernel)) (fun _ _ _ _ _ => (pg_name (i := 1) sc_is_reduced.nd rfl (by first | exact Or.inl rfl | exact Or.inr rfl))) (fun _ _ _ _ _ => pts_nil) (fun _ _ _ _ _ => (pe_cmpR op_ne (pe_ix (kix_tup (K := K)) (pv 0) (pe_op op_sub (pv 1) pe_int) (fun _ _ => rfl)) (pe_un un_neg (pe_ix (kix_tup (K := K)) (pv 0) (pv 1) (fun _ _ => rfl))) (nomark _)))) pa_nil)))), ?_⟩
    have el : (ns.map V.int).length = ns.length := List.length_map _
    let g : Nat → Bool := fun j => !decide (ns.getD j 0 = - ns.getD (j + 1) 0)
    have em : ((((ns.map V.int).length : Nat) : Int) - 1).toNat = ns.length - 1 := by rw [el]; omega
    refine ⟨.ref a, rfl, a, _, rfl, .inr h, 1, _, rfl, ⟨by decide, by decide, by omega, by omega⟩, ?_⟩
    rw [em]
    refine fun D hD => lc_range (lo := 1) (n := ns.length - 1) (fun i H' => Same H H' ∧ H' D = some (.lst (((List.range i).map g).map V.bl))) ⟨new_same hD, upd_same⟩ (fun i H' hi p => ?_) fun H' p => ?_
    · refine ⟨rfl, ?_⟩
      have h' := same_tup p.1 h
      refine ⟨.ref a, rfl, .int (1 + i), rfl, _, _, rfl, rfl, a, _, _, _, rfl, rfl, h', at_int (j := i) (by omega) (by omega), ?_⟩
      refine ⟨.ref a, rfl, .int (1 + i), rfl, a, _, _, _, rfl, rfl, h', at_int (j := i + 1) (by omega) (by omega), _, rfl, rfl, ?_⟩
      refine ⟨_, p.2, small1000 (by rw [List.length_map, List.length_map, List.length_range]; omega), same_mut p.1 hD, ?_⟩
      rw [upd_same, List.range_succ, List.map_append, List.map_append, dec_int]
      rfl
    · refine ⟨D, (List.range (ns.length - 1)).map g, rfl, lst_of p.2, ?_⟩
      have e : nfB ns = ((List.range (ns.length - 1)).map g).all id := by
        rw [List.all_map]
        rfl
      have := k _ p.1
      rw [e] at this
      exact this
theorem cl_is_reduced (T : Txt K mg) : Cl P w K mg base 1 "is_reduced" (spIsReduced K) := by
  obtain ⟨f, fd, F, hm, hb⟩ := T.f_is_reduced
  exact cl_of (ok_is_reduced F T) hm F.kp hb
def bareV (n m : Int) : Option (List (Option Int)) → Bool
  | some os => bareB n m os
  | none => false
theorem ints_of {H : Hp} {xs : List V} {os : List (Option Int)} (hl : xs.length = os.length) (he : ∀ (j : Nat) x o, xs[j]? = some x → os[j]? = some o → En K H x o) (ha : os = (intsOf os).map some) : xs = (intsOf os).map V.int := by
  refine List.ext_getElem? fun j => ?_
  by_cases hj : j < xs.length
  · have ho : os[j]? = ((intsOf os)[j]?).map some := by
      rw [← List.getElem?_map, ← ha]
    rw [List.getElem?_map]
    cases q : (intsOf os)[j]? with
    | none =>
      rw [q] at ho
      have := List.getElem?_eq_none_iff.mp ho
      omega
    | some i =>
      rw [q] at ho
      have hx : xs[j]? = some (xs[j]) := List.getElem?_eq_getElem hj
      have en := he j _ _ hx ho
      rw [hx]
      generalize xs[j] = x at en
      cases en
      rfl
  · rw [List.getElem?_eq_none (by omega), List.getElem?_eq_none]
    have : (intsOf os).length = os.length := by
      have := congrArg List.length ha
      rw [List.length_map] at this
      exact this.symm
    rw [List.length_map]
    omega
def spIsBareRow (K : PySem.W.Frag) : Sp := fun vs H Q _ => ∃ (n m : Int) (v : V) (o : Option (List (Option Int))), vs = [.int n, v, .int m] ∧ m ≤ 1000 ∧ Va K H v o ∧ ∀ H', Same H H' → Q (.bl (bareV n m o)) H'
theorem ok_is_bare_row {f : Addr} {fd : FuncData} (F : Fun K "is_bare_row" "is_bare_row" st_is_bare_row f fd) (T : Txt K mg) : FnOk P w K mg base CX0 3 f fd ["letters", "value", "most"] (spIsBareRow K) := by
  have c_is_row : Cl P w K mg base 2 "is_row" (spIsRow K) := cl_is_row T
  have c_is_reduced : Cl P w K mg base 1 "is_reduced" (spIsReduced K) := cl_is_reduced T
  refine F.ok sc_is_bare_row (fun vs H Q E h => ?_) (fun cdv A outer s H vs Q E hr h => ?_)
  · obtain ⟨n, m, v, o, rfl, _⟩ := h
    rfl
  · obtain ⟨n, m, v, o, rfl, hm, va, k⟩ := h
    refine ⟨_, (pss_one (ps_ret (pe_and (pe_f c_is_row hr (by decide) rfl (pa_cons (pv 0) (pa_cons (pv 1) (pa_cons (pv 2) pa_nil)))) (pe_one (pe_f c_is_reduced hr (by decide) rfl (pa_cons (pv 1) pa_nil)))))), ?_⟩
    refine ⟨.int n, rfl, v, rfl, .int m, rfl, n, m, v, o, rfl, hm, va, fun H1 e1 => ⟨_, rfl, ?_⟩⟩
    cases va with
    | oth h kt => exact k _ e1
    | @tup a xs os h hl he =>
      show if rowB n m os = true then _ else _
      refine ite2 (fun hb => ?_) fun hb => ?_
      · have hb2 : (!decide (m < (os.length : Int)) && os.all (okE n)) = true := hb
        rw [Bool.and_eq_true, Bool.not_eq_true'] at hb2
        have a1 := of_decide_eq_false hb2.1
        have e := ints_of hl he (all_some hb2.2)
        have el : (intsOf os).length = os.length := by
          have := congrArg List.length e
          rw [List.length_map] at this
          omega
        rw [e] at h
        refine ⟨.ref a, rfl, a, intsOf os, rfl, same_tup e1 h, by omega, fun H2 e2 => ?_⟩
        have := k _ (Same.trans e1 e2)
        have e3 : bareV n m (some os) = nfB (intsOf os) := by
          show (rowB n m os && nfB (intsOf os)) = _
          rw [hb]
          rfl
        rw [e3] at this
        exact this
      · have := k _ e1
        have e3 : bareV n m (some os) = false := by
          show (rowB n m os && nfB (intsOf os)) = _
          rw [Bool.eq_false_iff.mpr hb]
          rfl
        rw [e3] at this
        exact this
theorem cl_is_bare_row (T : Txt K mg) : Cl P w K mg base 3 "is_bare_row" (spIsBareRow K) := by
  obtain ⟨f, fd, F, hm, hb⟩ := T.f_is_bare_row
  exact cl_of (ok_is_bare_row F T) hm F.kp hb
def spChkWord (K : PySem.W.Frag) : Sp := fun vs H Q _ => ∃ (n : Int) (a : Addr) (ns : List Int), vs = [.int n, .ref a] ∧ SqT K H a (ns.map V.int) ∧ Wd n ns ∧ ns.length ≤ 200 ∧ ∀ H', Same H H' → Q .non H'
theorem ok_check_word {f : Addr} {fd : FuncData} (F : Fun K "check_word" "check_word" st_check_word f fd) (T : Txt K mg) : FnOk P w K mg base CX0 4 f fd ["letters", "word"] (spChkWord K) := by
  have c_is_bare_row : Cl P w K mg base 3 "is_bare_row" (spIsBareRow K) := cl_is_bare_row T
  refine F.ok sc_check_word (fun vs H Q E h => ?_) (fun cdv A outer s H vs Q E hr h => ?_)
  · obtain ⟨n, a, ns, rfl, _⟩ := h
    rfl
  · obtain ⟨n, a, ns, rfl, h, hw, hl, k⟩ := h
    refine ⟨_, (pss_one (ps_if (pt_not (pt_val (pe_f c_is_bare_row hr (by decide) rfl (pa_cons (pv 0) (pa_cons (pv 1) (pa_cons (pe_glob rfl T.c_MAX_WORD.choose_spec rel_int) pa_nil)))))) (pss_one ps_never) pss_nil)), ?_⟩
    refine ⟨.int n, rfl, .ref a, rfl, n, 200, .ref a, _, rfl, by decide, va_ints h, fun H1 e1 => ⟨_, rfl, ?_⟩⟩
    show if (!bareB n 200 (ns.map some)) = true then _ else _
    rw [bare_wd hw (by omega)]
    exact k _ e1
theorem cl_check_word (T : Txt K mg) : Cl P w K mg base 4 "check_word" (spChkWord K) := by
  obtain ⟨f, fd, F, hm, hb⟩ := T.f_check_word
  exact cl_of (ok_check_word F T) hm F.kp hb
/-- some words, each at its address -/
def Ws (K : PySem.W.Frag) (H : Hp) (n : Int) (ws : List (Addr × List Int)) : Prop := ∀ p ∈ ws, SqT K H p.1 (p.2.map V.int) ∧ Wd n p.2 ∧ p.2.length ≤ 200
def spChkWords (K : PySem.W.Frag) : Sp := fun vs H Q _ => ∃ (n : Int) (t : Addr) (ws : List (Addr × List Int)), vs = [.int n, .ref t] ∧ 1 ≤ n ∧ n ≤ 5 ∧ SqT K H t (ws.map fun p => V.ref p.1) ∧ Ws K H n ws ∧ ∀ H', Same H H' → Q .non H'
theorem ok_check_words {f : Addr} {fd : FuncData} (F : Fun K "check_words" "check_words" st_check_words f fd) (T : Txt K mg) : FnOk P w K mg base CX0 5 f fd ["letters", "words"] (spChkWords K) := by
  have c_check_letters : Cl P w K mg base 3 "check_letters" spChkLetters := cl_check_letters T
  have c_check_word : Cl P w K mg base 4 "check_word" (spChkWord K) := cl_check_word T
  refine F.ok sc_check_words (fun vs H Q E h => ?_) (fun cdv A outer s H vs Q E hr h => ?_)
  · obtain ⟨n, t, ws, rfl, _⟩ := h
    rfl
  · obtain ⟨n, t, ws, rfl, n1, n5, ht, hw, k⟩ := h
    refine ⟨_, (pss_cons (ps_expr (pe_f c_check_letters hr (by decide) rfl (pa_cons (pv 0) pa_nil))) (pss_one (ps_for PassesOwn.never rfl (kpi_tup (K := K) (pv 1)) (pg_name (i := 2) sc_check_words.nd rfl (Or.inl rfl)) (pss_one (ps_expr (pe_f c_check_word hr (by decide) rfl (pa_cons (pv 0) (pa_cons (pv 2) pa_nil)))))))), ?_⟩
    refine ⟨.int n, rfl, n, rfl, n1, n5, .ref t, rfl, t, rfl, ⟨_, ht⟩, for_tup (K := K) (a := t) (xs := ws.map fun p => V.ref p.1) (fun _ σ H' => Same H H' ∧ ∃ x, σ = [some (.int n), some (.ref t), x]) ⟨Same.refl _, none, rfl⟩ (fun _ σ H' _ p => same_tup p.1 ht) (fun i x σ H' hx p => ?_) fun σ H' p => k _ p.1⟩
    obtain ⟨e1, y, rfl⟩ := p
    rw [List.getElem?_map] at hx
    cases q : ws[i]? with
    | none => rw [q] at hx; cases hx
    | some u =>
      rw [q] at hx
      cases hx
      obtain ⟨h1, h2, h3⟩ := hw u (List.mem_of_getElem? q)
      exact ⟨.int n, rfl, .ref u.1, rfl, n, u.1, u.2, rfl, same_tup e1 h1, h2, h3, fun H2 e2 => ⟨Same.trans e1 e2, _, rfl⟩⟩
theorem cl_check_words (T : Txt K mg) : Cl P w K mg base 5 "check_words" (spChkWords K) := by
  obtain ⟨f, fd, F, hm, hb⟩ := T.f_check_words
  exact cl_of (ok_check_words F T) hm F.kp hb
/-- what a turn does to the pile, and its reading -/
theorem act_take {ns : List Int} {i : Nat} {e : Int} (h : ns[i]? = some e) : Fr.act (ns.take (i + 1)) [] = Fr.push e (Fr.act (ns.take i) []) := by
  rw [List.take_succ, h]
  show Fr.act (ns.take i ++ [e]) [] = _
  rw [Fr.act_app]
  rfl
def kp (ns : List Int) (i : Nat) : List V := ((Fr.act (ns.take i) []).reverse).map V.int
theorem kp_len (ns : List Int) (i : Nat) : (kp ns i).length ≤ ns.length := by
  unfold kp
  rw [List.length_map, List.length_reverse]
  have h := len_act (ns.take i) []
  rw [List.length_take] at h
  simp at h
  omega
theorem get_int {ns : List Int} {i : Nat} {x : V} (h : (ns.map V.int)[i]? = some x) : ∃ e, ns[i]? = some e ∧ x = .int e := by
  rw [List.getElem?_map] at h
  cases q : ns[i]? with
  | none => rw [q] at h; cases h
  | some e => rw [q] at h; exact ⟨e, rfl, (Option.some.inj h).symm⟩
theorem kp_end (ns : List Int) : kp ns ns.length = (Fr.red ns).map V.int := by
  unfold kp Fr.red
  rw [List.take_length]
def SqA (K : PySem.W.Frag) (H : Hp) (a : Addr) (xs : List V) : Prop := SqL K H a xs ∨ SqT K H a xs
def spReduced (K : PySem.W.Frag) : Sp := fun vs H Q _ => ∃ (a : Addr) (ns : List Int), vs = [.ref a] ∧ SqA K H a (ns.map V.int) ∧ ns.length ≤ 20000 ∧ ∀ H' p, Same H H' → SqT K H' p ((Fr.red ns).map V.int) → Q (.ref p) H'
theorem ok_reduced {f : Addr} {fd : FuncData} (F : Fun K "reduced" "reduced" st_reduced f fd) (T : Txt K mg) : FnOk P w K mg base CX0 1 f fd ["row"] (spReduced K) := by
  refine F.ok sc_reduced (fun vs H Q E h => ?_) (fun cdv A outer s H vs Q E hr h => ?_)
  · obtain ⟨a, ns, rfl, _⟩ := h
    rfl
  · obtain ⟨a, ns, rfl, h, hz, k⟩ := h
    let Pv : Addr → Nat → L2.St → Hp → Prop := fun l i σ H' => ∃ x, σ = [some (.ref a), some (.ref l), x] ∧ H' = upd H l (.lst (kp ns i))
    have zl : ∀ {j : Nat}, j ≤ ns.length → j < sizeLine := fun hj => Nat.lt_of_le_of_lt (Nat.le_trans hj hz) (by decide)
    have last : ∀ (l : Addr) (σ : L2.St) (H' : Hp), H l = none → Pv l (ns.map V.int).length σ H' → (tRet (tCB (rTupOf K) (tCons (tVar 1) tNil))) { nx := fun _ H' => Q .non H', rt := Q } σ H' := fun l σ H' hl ⟨x, es, eh⟩ => by
      subst es eh
      refine ⟨.ref l, rfl, l, _, rfl, .inl ⟨lst_of upd_same, fun q hq => k _ _ (Same.trans (new_same hl) (new_same hq)) (tup_of ?_)⟩⟩
      rw [upd_same, List.length_map, kp_end]
    rcases h with h | h
    · refine ⟨_, (pss_cons (ps_set (i := 1) sc_reduced.nd rfl (Or.inl rfl) (pe_lst pa_nil)) (pss_cons (ps_for PassesOwn.never rfl (kpi_list (K := K) (pv 0)) (pg_name (i := 2) sc_reduced.nd rfl (Or.inl rfl)) (pss_one (ps_if (PW.pt (pw_and (kpt_truth (K := K) (pv 1) (by intro _; rfl)) (pw_and1 (pt_cmpR op_eq (pe_ix (kix_list (K := K)) (pv 1) (pe_un un_neg pe_int) (fun _ _ => rfl)) (pe_un un_neg (pv 2)) (nomark _))))) (pss_one (ps_expr (pe_bm0 PySem.F.plainAttrs_list PySem.F.slot_list_pop PySem.F.type_list_pop mt_pop (pv 1)))) (pss_one (ps_expr (pe_bm PySem.F.plainAttrs_list PySem.F.slot_list_append PySem.F.type_list_append mt_append (pv 1) (pa_cons (pv 2) pa_nil))))))) (pss_one (ps_ret (pe_callTy (kcall_tuple (K := K)) (by rfl) T.n_tuple bo_tuple (pa_cons (pv 1) pa_nil)))))), ?_⟩
      refine ⟨Nat.zero_le _, fun l hl => ⟨.ref a, rfl, a, rfl, ⟨_, (Rs.same (S := none) True.intro (new_same hl)).lst (fun q => nomatch q) h⟩, for_list (K := K) (a := a) (xs := ns.map V.int) (Pv l) ⟨none, rfl, rfl⟩ (fun i σ H' _ p => ?_) (fun i x σ H' hx p => ?_) fun σ H' p => last l σ H' hl p⟩⟩
      · obtain ⟨x, _, rfl⟩ := p
        exact (Rs.same (S := none) True.intro (new_same hl)).lst (fun q => nomatch q) h
      · obtain ⟨y, rfl, rfl⟩ := p
        obtain ⟨e, he, rfl⟩ := get_int hx
        have at1 := act_take he
        cases q : Fr.act (ns.take i) [] with
        | nil =>
          have ek : kp ns i = [] := by unfold kp; rw [q]; rfl
          have ek1 : kp ns (i + 1) = [.int e] := by unfold kp; rw [at1, q]; rfl
          refine ⟨.ref l, rfl, false, .inl ⟨_, lst_of upd_same, by rw [ek]; rfl⟩, ?_⟩
          refine ⟨.ref l, rfl, .inl ⟨rfl, _, SqL.of upd_same⟩, .int e, rfl, l, _, _, rfl, rfl, upd_same, zl (kp_len ns i), some (.int e), rfl, ?_⟩
          rw [upd_upd, ek, ek1]
          rfl
        | cons y1 t =>
          have ek : kp ns i = (t.reverse.map V.int) ++ [.int y1] := by unfold kp; rw [q, List.reverse_cons, List.map_append]; rfl
          refine ⟨.ref l, rfl, true, .inl ⟨_, lst_of upd_same, by rw [ek]; simp⟩, ?_⟩
          refine ⟨.ref l, rfl, 1, rfl, l, _, _, .int y1, rfl, rfl, lst_of upd_same, by rw [ek]; exact atI_last _ _, .int e, rfl, e, rfl, rfl, _, rfl, ?_⟩
          refine ite2 (fun h1 => ?_) fun h1 => ?_
          · have h1 : y1 = -e := V.int.inj (of_decide_eq_true h1)
            have ek1 : kp ns (i + 1) = t.reverse.map V.int := by unfold kp; rw [at1, q, Fr.push_eq h1]
            refine ⟨.ref l, rfl, .inl ⟨rfl, _, SqL.of upd_same⟩, l, _, .int y1, rfl, rfl, upd_same, by rw [ek]; simp, some (.int e), rfl, ?_⟩
            rw [upd_upd, ek, ek1, List.dropLast_concat]
          · have h1 : ¬ y1 = -e := fun z => h1 (decide_eq_true (congrArg V.int z))
            have ek1 : kp ns (i + 1) = kp ns i ++ [.int e] := by unfold kp; rw [at1, q, Fr.push_on h1, List.reverse_cons, List.map_append]; rfl
            refine ⟨.ref l, rfl, .inl ⟨rfl, _, SqL.of upd_same⟩, .int e, rfl, l, _, _, rfl, rfl, upd_same, zl (kp_len ns i), some (.int e), rfl, ?_⟩
            rw [upd_upd, ek1]
    · refine ⟨_, (pss_cons (ps_set (i := 1) sc_reduced.nd rfl (Or.inl rfl) (pe_lst pa_nil)) (pss_cons (ps_for PassesOwn.never rfl (kpi_tup (K := K) (pv 0)) (pg_name (i := 2) sc_reduced.nd rfl (Or.inl rfl)) (pss_one (ps_if (PW.pt (pw_and (kpt_truth (K := K) (pv 1) (by intro _; rfl)) (pw_and1 (pt_cmpR op_eq (pe_ix (kix_list (K := K)) (pv 1) (pe_un un_neg pe_int) (fun _ _ => rfl)) (pe_un un_neg (pv 2)) (nomark _))))) (pss_one (ps_expr (pe_bm0 PySem.F.plainAttrs_list PySem.F.slot_list_pop PySem.F.type_list_pop mt_pop (pv 1)))) (pss_one (ps_expr (pe_bm PySem.F.plainAttrs_list PySem.F.slot_list_append PySem.F.type_list_append mt_append (pv 1) (pa_cons (pv 2) pa_nil))))))) (pss_one (ps_ret (pe_callTy (kcall_tuple (K := K)) (by rfl) T.n_tuple bo_tuple (pa_cons (pv 1) pa_nil)))))), ?_⟩
      refine ⟨Nat.zero_le _, fun l hl => ⟨.ref a, rfl, a, rfl, ⟨_, same_tup (new_same hl) h⟩, for_tup (K := K) (a := a) (xs := ns.map V.int) (Pv l) ⟨none, rfl, rfl⟩ (fun i σ H' _ p => ?_) (fun i x σ H' hx p => ?_) fun σ H' p => last l σ H' hl p⟩⟩
      · obtain ⟨x, _, rfl⟩ := p
        exact same_tup (new_same hl) h
      · obtain ⟨y, rfl, rfl⟩ := p
        obtain ⟨e, he, rfl⟩ := get_int hx
        have at1 := act_take he
        cases q : Fr.act (ns.take i) [] with
        | nil =>
          have ek : kp ns i = [] := by unfold kp; rw [q]; rfl
          have ek1 : kp ns (i + 1) = [.int e] := by unfold kp; rw [at1, q]; rfl
          refine ⟨.ref l, rfl, false, .inl ⟨_, lst_of upd_same, by rw [ek]; rfl⟩, ?_⟩
          refine ⟨.ref l, rfl, .inl ⟨rfl, _, SqL.of upd_same⟩, .int e, rfl, l, _, _, rfl, rfl, upd_same, zl (kp_len ns i), some (.int e), rfl, ?_⟩
          rw [upd_upd, ek, ek1]
          rfl
        | cons y1 t =>
          have ek : kp ns i = (t.reverse.map V.int) ++ [.int y1] := by unfold kp; rw [q, List.reverse_cons, List.map_append]; rfl
          refine ⟨.ref l, rfl, true, .inl ⟨_, lst_of upd_same, by rw [ek]; simp⟩, ?_⟩
          refine ⟨.ref l, rfl, 1, rfl, l, _, _, .int y1, rfl, rfl, lst_of upd_same, by rw [ek]; exact atI_last _ _, .int e, rfl, e, rfl, rfl, _, rfl, ?_⟩
          refine ite2 (fun h1 => ?_) fun h1 => ?_
          · have h1 : y1 = -e := V.int.inj (of_decide_eq_true h1)
            have ek1 : kp ns (i + 1) = t.reverse.map V.int := by unfold kp; rw [at1, q, Fr.push_eq h1]
            refine ⟨.ref l, rfl, .inl ⟨rfl, _, SqL.of upd_same⟩, l, _, .int y1, rfl, rfl, upd_same, by rw [ek]; simp, some (.int e), rfl, ?_⟩
            rw [upd_upd, ek, ek1, List.dropLast_concat]
          · have h1 : ¬ y1 = -e := fun z => h1 (decide_eq_true (congrArg V.int z))
            have ek1 : kp ns (i + 1) = kp ns i ++ [.int e] := by unfold kp; rw [at1, q, Fr.push_on h1, List.reverse_cons, List.map_append]; rfl
            refine ⟨.ref l, rfl, .inl ⟨rfl, _, SqL.of upd_same⟩, .int e, rfl, l, _, _, rfl, rfl, upd_same, zl (kp_len ns i), some (.int e), rfl, ?_⟩
            rw [upd_upd, ek1]
theorem cl_reduced (T : Txt K mg) : Cl P w K mg base 1 "reduced" (spReduced K) := by
  obtain ⟨f, fd, F, hm, hb⟩ := T.f_reduced
  exact cl_of (ok_reduced F T) hm F.kp hb
def spOpp (K : PySem.W.Frag) : Sp := fun vs H Q _ => ∃ (a : Addr) (ns : List Int), vs = [.ref a] ∧ SqT K H a (ns.map V.int) ∧ ns.length ≤ 20000 ∧ ∀ H' p, Same H H' → SqT K H' p ((Fr.opp ns).map V.int) → Q (.ref p) H'
theorem opp_take (ns : List Int) (i : Nat) (e : Int) (h : ns.reverse[i]? = some e) : (ns.reverse.take (i + 1)).map (fun x => -x) = (ns.reverse.take i).map (fun x => -x) ++ [-e] := by
  rw [List.take_succ, h, List.map_append]
  rfl
theorem opp_all (ns : List Int) : (ns.reverse.take ns.length).map (fun x => -x) = Fr.opp ns := by
  rw [List.take_of_length_le (by rw [List.length_reverse]; exact Nat.le_refl _), List.map_reverse]
  rfl
theorem ok_opposite {f : Addr} {fd : FuncData} (F : Fun K "opposite" "opposite" st_opposite f fd) (T : Txt K mg) : FnOk P w K mg base CX0 1 f fd ["row"] (spOpp K) := by
  refine F.ok sc_opposite (fun vs H Q E h => ?_) (fun cdv A outer s H vs Q E hr h => ?_)
  · obtain ⟨a, ns, rfl, _⟩ := h
    rfl
  · obtain ⟨a, ns, rfl, h, hz, k⟩ := h
    refine ⟨_, (pss_one (ps_ret (pe_callTy (kcall_tuple (K := K)) (by rfl) T.n_tuple bo_tuple (pa_cons (pe_lc (own := [("entry", 1)]) rfl sc_opposite.nd (kpi_tup (K := K) (kpe_revT (K := K) (pv 0))) (blkOk_by (N := nm_opposite) (sc := defScope st_opposite) (by decide +kernel)) (fun _ _ _ _ _ => (pg_name (i := 1) sc_opposite.nd rfl (by first | exact Or.inl rfl | exact Or.inr rfl))) (fun _ _ _ _ _ => pts_nil) (fun _ _ _ _ _ => (pe_un un_neg (pv 1)))) pa_nil)))), ?_⟩
    refine ⟨.ref a, rfl, a, _, rfl, h, fun p hp => ⟨p, rfl, ⟨_, tup_of upd_same⟩, fun D hD => lc_tup (K := K) (a := p) (xs := (ns.map V.int).reverse) (fun i H' => Same (upd H p (.tup (ns.map V.int).reverse)) H' ∧ H' D = some (.lst (((ns.reverse.take i).map fun x => -x).map V.int))) ⟨new_same hD, upd_same⟩ (fun i H' _ q => same_tup q.1 (tup_of upd_same)) (fun i x H' hx q => ?_) fun H' q => ?_⟩⟩
    · rw [← List.map_reverse] at hx
      have hi : i < ns.length := by
        have := (List.getElem?_eq_some_iff.mp hx).1
        rw [List.length_map, List.length_reverse] at this
        exact this
      rw [List.getElem?_map] at hx
      cases z : ns.reverse[i]? with
      | none => rw [z] at hx; cases hx
      | some e =>
        rw [z] at hx
        cases hx
        refine ⟨rfl, .int e, rfl, e, rfl, _, q.2, Nat.lt_of_le_of_lt (Nat.le_trans (by rw [List.length_map, List.length_map, List.length_take]; omega) hz) (by decide), same_mut q.1 hD, ?_⟩
        rw [upd_same, opp_take ns i e z, List.map_append]
        rfl
    · refine ⟨D, _, rfl, .inl ⟨lst_of q.2, fun l hl => k _ _ (Same.trans (Same.trans (new_same hp) q.1) (new_same hl)) (tup_of ?_)⟩⟩
      rw [upd_same, List.length_reverse, List.length_map, opp_all]
theorem cl_opposite (T : Txt K mg) : Cl P w K mg base 1 "opposite" (spOpp K) := by
  obtain ⟨f, fd, F, hm, hb⟩ := T.f_opposite
  exact cl_of (ok_opposite F T) hm F.kp hb
/-- a word in its two parts -/
def Spl (ns c m : List Int) : Prop := ns = c ++ m ++ Fr.opp c ∧ (ns = [] → c = [] ∧ m = []) ∧ (ns ≠ [] → m ≠ [] ∧ ∀ x y, m.getLast? = some x → m.head? = some y → x ≠ -y)
def spSplit (K : PySem.W.Frag) : Sp := fun vs H Q _ => ∃ (n : Int) (a : Addr) (ns : List Int), vs = [.ref a] ∧ SqT K H a (ns.map V.int) ∧ Wd n ns ∧ ns.length ≤ 20000 ∧
  ∀ H' p pc pm c m, Same H H' → Spl ns c m → SqT K H' p [.ref pc, .ref pm] → SqT K H' pc (c.map V.int) → SqT K H' pm (m.map V.int) → Q (.ref p) H'
theorem ok_split_core {f : Addr} {fd : FuncData} (F : Fun K "split_core" "split_core" st_split_core f fd) (T : Txt K mg) : FnOk P w K mg base CX0 1 f fd ["row"] (spSplit K) := by
  refine F.ok sc_split_core (fun vs H Q E h => ?_) (fun cdv A outer s H vs Q E hr h => ?_)
  · obtain ⟨n, a, ns, rfl, _⟩ := h
    rfl
  · obtain ⟨n, a, ns, rfl, h, hw, hz, k⟩ := h
    refine ⟨_, (pss_cons (ps_set (i := 1) sc_split_core.nd rfl (Or.inl rfl) (pe_callB (kcall_len (K := K)) (by rfl) T.n_len bo_len (pa_cons (pv 0) pa_nil))) (pss_cons (ps_set (i := 2) sc_split_core.nd rfl (Or.inl rfl) pe_int) (pss_cons (ps_while PassesOwn.never (PW.pt (pw_and (pt_cmpR op_lt (pe_op op_add (pe_op op_mul pe_int (pv 2)) pe_int) (pv 1) (nomark _)) (pw_and1 (pt_cmpR op_eq (pe_ix (kix_tup (K := K)) (pv 0) (pv 2) (fun _ _ => rfl)) (pe_un un_neg (pe_ix (kix_tup (K := K)) (pv 0) (pe_op op_sub (pe_op op_sub (pv 1) pe_int) (pv 2)) (fun _ _ => rfl))) (nomark _))))) (pss_one (ps_aug (i := 2) sc_split_core.nd rfl (Or.inl rfl) pe_int ip_add))) (pss_one (ps_ret (pe_tup (pa_cons (pe_slice (ksl_tupA (K := K)) (pv 0) po_none (po_some (pv 2))) (pa_cons (pe_slice (ksl_tupA (K := K)) (pv 0) (po_some (pv 2)) (po_some (pe_op op_sub (pv 1) (pv 2)))) pa_nil)))))))), ?_⟩
    refine ⟨.ref a, rfl, a, _, rfl, .inr h, ?_⟩
    rw [show (((ns.map V.int).length : Nat) : Int) = (ns.length : Int) by rw [List.length_map]]
    have fin : ∀ d : Nat, Pal ns d → ¬ (2 * d + 1 < ns.length ∧ ns.getD d 0 = - ns.getD (ns.length - 1 - d) 0) → (tRet (tTup (tCons (tSl (rSlA K) (tVar 0) tNoPart (tPart (tVar 2))) (tCons (tSl (rSlA K) (tVar 0) (tPart (tVar 2)) (tPart (tOp (rI0 fun i j => V.int (i - j)) (tVar 1) (tVar 2)))) tNil)))) { nx := fun _ H' => Q .non H', rt := Q } [some (.ref a), some (.int (ns.length : Int)), some (.int (d : Int))] H := fun d hp hs => by
      have h2d := hp.1
      refine ⟨.ref a, rfl, .int (d : Int), rfl, (d : Int), rfl, sl_ints h fun H1 pc e1 hc => ?_⟩
      rw [cutI_to] at hc
      refine ⟨.ref a, rfl, .int (d : Int), rfl, (d : Int), rfl, .int (ns.length : Int), rfl, .int (d : Int), rfl, _, _, rfl, rfl, _, rfl, sl_ints (same_tup e1 h) fun H2 pm e2 hm => ?_⟩
      rw [show (ns.length : Int) - (d : Int) = ((ns.length - d : Nat) : Int) by omega, cutI_mid ns d (ns.length - d) (by omega) (by omega)] at hm
      refine ⟨by show 2 ≤ sizeLine; decide, fun p hpn => k _ p pc pm (ns.take d) _ (Same.trans (Same.trans e1 e2) (new_same hpn)) ⟨pal_split hp, fun q => ?_, fun q => pal_mid hw hp q hs⟩ (tup_of upd_same) (same_tup (Same.trans e2 (new_same hpn)) hc) (same_tup (new_same hpn) hm)⟩
      subst q
      simp
    refine ⟨fun m σ H' => ∃ d : Nat, m = ns.length - d ∧ Pal ns d ∧ H' = H ∧ σ = [some (.ref a), some (.int (ns.length : Int)), some (.int (d : Int))], ⟨ns.length, 0, rfl, ⟨Nat.zero_le _, fun j hj => absurd hj (Nat.not_lt_zero _)⟩, rfl, rfl⟩, fun m σ H' ⟨d, hm, hp, eH, es⟩ => ?_⟩
    subst eH es
    have h2d := hp.1
    refine ⟨.int (d : Int), rfl, 2, (d : Int), rfl, rfl, .inl ⟨by decide, by decide⟩, _, _, rfl, rfl, .int (ns.length : Int), rfl, _, _, rfl, rfl, _, rfl, ?_⟩
    refine ite2 (fun h1 => ?_) fun h1 => ?_
    · have h1 : (2 : Int) * d + 1 < ns.length := of_decide_eq_true h1
      refine ⟨.ref a, rfl, .int (d : Int), rfl, a, _, _, _, rfl, rfl, h, at_int (j := d) rfl (by omega), ?_⟩
      refine ⟨.ref a, rfl, .int (ns.length : Int), rfl, _, _, rfl, rfl, .int (d : Int), rfl, _, _, rfl, rfl, a, _, _, _, rfl, rfl, h, at_int (j := ns.length - 1 - d) (by omega) (by omega), _, rfl, rfl, _, rfl, ?_⟩
      rw [dec_int]
      refine ite2 (fun h2 => ?_) fun h2 => ?_
      · have h2 := of_decide_eq_true h2
        refine ⟨fun σ' H2 => H2 = H' ∧ σ' = [some (.ref a), some (.int (ns.length : Int)), some (.int ((d : Int) + 1))], fun σ' H' ⟨e1, e2⟩ => ⟨ns.length - (d + 1), by omega, d + 1, rfl, ⟨by omega, fun j hj => ?_⟩, e1, e2⟩, .int (d : Int), rfl, _, _, rfl, rfl, rfl, rfl⟩
        by_cases hjd : j = d
        · subst hjd; exact h2
        · exact hp.2 j (by omega)
      · exact fin d hp fun q => h2 (decide_eq_true q.2)
    · have h1 : ¬ (2 : Int) * d + 1 < ns.length := fun q => h1 (decide_eq_true q)
      exact fin d hp fun q => h1 (by omega)
theorem cl_split_core (T : Txt K mg) : Cl P w K mg base 1 "split_core" (spSplit K) := by
  obtain ⟨f, fd, F, hm, hb⟩ := T.f_split_core
  exact cl_of (ok_split_core F T) hm F.kp hb
/-- some tuples of numbers, each at its address -/
def Tis (K : PySem.W.Frag) (H : Hp) (ws : List (Addr × List Int)) : Prop := ∀ p ∈ ws, SqT K H p.1 (p.2.map V.int)
def fl (ws : List (Addr × List Int)) : List Int := (ws.map (·.2)).flatten
theorem fl_take {ws : List (Addr × List Int)} {i : Nat} {u : Addr × List Int} (h : ws[i]? = some u) : fl (ws.take (i + 1)) = fl (ws.take i) ++ u.2 := by
  unfold fl
  rw [List.take_succ, h, List.map_append, List.flatten_append]
  show _ ++ (u.2 ++ []) = _
  rw [List.append_nil]
theorem len_app_le {a b c : List Int} (h : a ++ b = c) : a.length ≤ c.length := by
  rw [← h, List.length_append]
  omega
theorem fl_take_le (ws : List (Addr × List Int)) (i : Nat) : (fl (ws.take i)).length ≤ (fl ws).length := by
  refine len_app_le (b := fl (ws.drop i)) ?_
  unfold fl
  rw [← List.flatten_append, ← List.map_append, List.take_append_drop]
def spJoined (K : PySem.W.Frag) : Sp := fun vs H Q _ => ∃ (t : Addr) (ws : List (Addr × List Int)), vs = [.ref t] ∧ SqT K H t (ws.map fun p => V.ref p.1) ∧ Tis K H ws ∧ (fl ws).length ≤ 20000 ∧ ∀ H' p, Same H H' → SqT K H' p ((Fr.red (fl ws)).map V.int) → Q (.ref p) H'
theorem ok_product_of {f : Addr} {fd : FuncData} (F : Fun K "product_of" "product_of" st_product_of f fd) (T : Txt K mg) : FnOk P w K mg base CX0 2 f fd ["rows"] (spJoined K) := by
  have c_reduced : Cl P w K mg base 1 "reduced" (spReduced K) := cl_reduced T
  refine F.ok sc_product_of (fun vs H Q E h => ?_) (fun cdv A outer s H vs Q E hr h => ?_)
  · obtain ⟨t, ws, rfl, _⟩ := h
    rfl
  · obtain ⟨t, ws, rfl, ht, hw, hz, k⟩ := h
    refine ⟨_, (pss_one (ps_ret (pe_f c_reduced hr (by decide) rfl (pa_cons (pe_lc2 (own := [("row", 1), ("entry", 2)]) (vs1 := [2]) rfl sc_product_of.nd (kpi_tup (K := K) (pv 0)) (blkOk_by (N := nm_product_of) (sc := defScope st_product_of) (by decide +kernel)) (by decide) (fun _ _ _ _ _ => (pg_name (i := 1) sc_product_of.nd rfl (by first | exact Or.inl rfl | exact Or.inr rfl))) (fun _ _ _ _ _ => pts_nil) (fun _ _ _ _ _ => (kpi_tup (K := K) (pv 1))) (fun _ _ _ _ _ => (pg_name (i := 2) sc_product_of.nd rfl (by first | exact Or.inl rfl | exact Or.inr rfl))) (fun _ _ _ _ _ => pts_nil) (fun _ _ _ _ _ => (pv 2))) pa_nil)))), ?_⟩
    refine ⟨.ref t, rfl, t, rfl, ⟨_, ht⟩, fun D hD => ?_⟩
    refine ⟨fun i m H' => m = ws.length - i ∧ i ≤ ws.length ∧ Same H H' ∧ H' D = some (.lst ((fl (ws.take i)).map V.int)), ⟨ws.length, by simp, Nat.zero_le _, new_same hD, upd_same⟩, fun i m H1 ⟨e1, i1, s1, d1⟩ => ?_⟩
    have t1 := same_tup s1 ht
    by_cases hi : i < ws.length
    · have hu : ws[i]? = some ws[i] := List.getElem?_eq_getElem hi
      generalize ws[i] = u at hu
      have hu' := hw u (List.mem_of_getElem? hu)
      refine .inr ⟨⟨_, .ref u.1, t1, by rw [List.getElem?_map, hu]; rfl⟩, fun H' => i + 1 ≤ ws.length ∧ Same H H' ∧ H' D = some (.lst ((fl (ws.take (i + 1))).map V.int)), fun H' q => ⟨ws.length - (i + 1), by omega, rfl, q⟩, fun x H' y => ?_⟩
      obtain ⟨e2, y⟩ := y
      subst e2
      have hx : x = .ref u.1 := by
        have := y _ t1
        rw [List.getElem?_map, hu] at this
        exact (Option.some.inj this).symm
      subst hx
      refine ⟨rfl, .ref u.1, rfl, u.1, rfl, ⟨_, same_tup s1 hu'⟩, fun j m2 H' => m2 = u.2.length - j ∧ j ≤ u.2.length ∧ Same H H' ∧ H' D = some (.lst ((fl (ws.take i) ++ u.2.take j).map V.int)), ⟨u.2.length, by simp, Nat.zero_le _, s1, by rw [List.take_zero, List.append_nil]; exact d1⟩, fun j m2 H2 ⟨e3, j1, s2, d2⟩ => ?_⟩
      have t2 := same_tup s2 hu'
      by_cases hj : j < u.2.length
      · have hv := getD_of hj
        refine .inr ⟨⟨_, .int (u.2.getD j 0), t2, by rw [List.getElem?_map, hv]; rfl⟩, fun H' => j + 1 ≤ u.2.length ∧ Same H H' ∧ H' D = some (.lst ((fl (ws.take i) ++ u.2.take (j + 1)).map V.int)), fun H' q => ⟨u.2.length - (j + 1), by omega, rfl, q⟩, fun x H' y => ?_⟩
        obtain ⟨e2, y⟩ := y
        subst e2
        have hx : x = .int (u.2.getD j 0) := by
          have := y _ t2
          rw [List.getElem?_map, hv] at this
          exact (Option.some.inj this).symm
        subst hx
        have hle : (fl (ws.take i)).length + u.2.length ≤ 20000 := by
          have := fl_take_le ws (i + 1)
          rw [fl_take hu, List.length_append] at this
          omega
        refine ⟨rfl, .int (u.2.getD j 0), rfl, _, d2, Nat.lt_of_le_of_lt (by rw [List.length_map, List.length_append, List.length_take]; omega : _ ≤ 20000) (by decide), by omega, same_mut s2 hD, ?_⟩
        rw [upd_same, List.take_succ, hv, ← List.append_assoc]
        simp only [List.map_append]
        rfl
      · have hl2 : (u.2.map V.int).length ≤ j := by
          rw [List.length_map]
          exact Nat.not_lt.mp hj
        refine .inl ⟨⟨_, t2, hl2⟩, hi, s2, ?_⟩
        rw [d2, fl_take hu, List.take_of_length_le (Nat.not_lt.mp hj)]
    · have hi2 : i = ws.length := by omega
      subst hi2
      rw [List.take_length] at d1
      refine .inl ⟨⟨_, t1, by rw [List.length_map]; exact Nat.le_refl _⟩, D, fl ws, rfl, .inl (lst_of d1), hz, fun H2 p e2 h2 => k _ _ (Same.trans s1 e2) h2⟩
theorem cl_product_of (T : Txt K mg) : Cl P w K mg base 2 "product_of" (spJoined K) := by
  obtain ⟨f, fd, F, hm, hb⟩ := T.f_product_of
  exact cl_of (ok_product_of F T) hm F.kp hb
def Sack3 (H : Hp) (S : Addr) : Prop := ∃ x y z : Int, H S = some (.lst [.int x, .int y, .int z])
def spSack (K : PySem.W.Frag) : Sp := fun vs H Q _ => ∃ (a : Addr) (ns : List Int) (k : Int), vs = [.ref a, .int k] ∧ SqL K H a (ns.map V.int) ∧ 0 ≤ k ∧ ∀ H' S, Same H H' → H S = none → Sack3 H' S → Q (.ref S) H'
theorem ok__law_sack {f : Addr} {fd : FuncData} (F : Fun K "_law_sack" "_law_sack" st__law_sack f fd) (T : Txt K mg) : FnOk P w K mg base CX0 1 f fd ["script", "spot"] (spSack K) := by
  refine F.ok sc__law_sack (fun vs H Q E h => ?_) (fun cdv A outer s H vs Q E hr h => ?_)
  · obtain ⟨a, ns, m, rfl, _⟩ := h
    rfl
  · obtain ⟨a, ns, m, rfl, h, m0, k⟩ := h
    refine ⟨_, (pss_cons (ps_set (i := 2) sc__law_sack.nd rfl (Or.inl rfl) (pe_ifExp (pt_cmpR op_lt (pv 1) (pe_callB (kcall_len (K := K)) (by rfl) T.n_len bo_len (pa_cons (pv 0) pa_nil)) (nomark _)) (pe_callTy call_int1 (by rfl) T.n_int bo_int (pa_cons (pe_ix (kix_list (K := K)) (pv 0) (pv 1) (fun _ _ => rfl)) pa_nil)) (pe_op op_add (pe_op op_mul pe_int (pv 1)) pe_int))) (pss_cons (ps_set (i := 3) sc__law_sack.nd rfl (Or.inl rfl) (pe_op op_mod (pe_callTy call_int1 (by rfl) T.n_int bo_int (pa_cons (pe_callB call_abs (by rfl) T.n_abs bo_abs (pa_cons (pv 2) pa_nil)) pa_nil)) (pe_op op_powG (pe_op op_powG pe_int pe_int) pe_int))) (pss_one (ps_ret (pe_lst (pa_cons (pe_callB (call_max2 rfl) (by rfl) T.n_max bo_max (pa_cons pe_int (pa_cons (pe_op op_sub (pv 3) (pe_op op_powG pe_int pe_int)) pa_nil))) (pa_cons (pe_op op_add (pe_op op_add (pe_op op_add (pe_op op_mul (pe_op op_mod (pe_callTy call_int1 (by rfl) T.n_int bo_int (pa_cons (pv 3) pa_nil)) pe_int) pe_int) (pe_op op_mul pe_int (pv 1))) (pe_op op_mul pe_int (pe_callTy call_int1 (by rfl) T.n_int bo_int (pa_cons (pe_cmpR op_lt (pv 2) pe_int (nomark _)) pa_nil)))) pe_int) (pa_cons pe_int pa_nil)))))))), ?_⟩
    refine ⟨.int m, rfl, .ref a, rfl, a, _, rfl, .inl h, _, _, rfl, rfl, _, rfl, ite2 (fun h1 => ?_) fun h1 => ?_⟩
    · have h1 : m < ((ns.map V.int).length : Nat) := of_decide_eq_true h1
      rw [List.length_map] at h1
      refine ⟨.ref a, rfl, .int m, rfl, a, _, _, _, rfl, rfl, h, at_int (j := m.toNat) (by omega) (by omega), .inl ⟨_, rfl, ?_⟩⟩
      generalize ns.getD m.toNat 0 = cell
      refine ⟨.int cell, rfl, cell, rfl, .inl ⟨_, rfl, _, _, rfl, rfl, ⟨by decide, by decide +kernel⟩, _, _, rfl, rfl, ⟨by decide, by decide +kernel⟩, _, _, rfl, rfl, (by show (0 : Int) < ((10 : Int) ^ (57 : Int).toNat) ^ (6 : Int).toNat; decide +kernel), ?_⟩⟩
      refine ⟨_, rfl, _, _, rfl, rfl, ⟨by decide, by decide +kernel⟩, _, _, rfl, rfl, _, _, rfl, ?_⟩
      refine ⟨_, rfl, .inl ⟨_, rfl, _, _, rfl, rfl, (by show (0 : Int) < 2147483477; decide), _, _, rfl, rfl, .inr ⟨by decide, by decide⟩, .int m, rfl, _, _, rfl, rfl, .inl ⟨by decide, by decide⟩, _, _, rfl, rfl, .int cell, rfl, _, _, rfl, rfl, .inr ⟨_, rfl, _, _, rfl, rfl, .inl ⟨by decide, by decide⟩, _, _, rfl, rfl, _, _, rfl, rfl, ?_⟩⟩⟩
      refine ⟨by show 3 ≤ sizeLine; decide, fun S hS => k _ _ (new_same hS) hS ⟨_, _, _, upd_same⟩⟩
    · refine ⟨.int m, rfl, _, _, rfl, rfl, .inl ⟨by decide, by decide⟩, _, _, rfl, rfl, ?_⟩
      refine ⟨_, rfl, _, rfl, .inl ⟨_, rfl, _, _, rfl, rfl, ⟨by decide, by decide +kernel⟩, _, _, rfl, rfl, ⟨by decide, by decide +kernel⟩, _, _, rfl, rfl, (by show (0 : Int) < ((10 : Int) ^ (57 : Int).toNat) ^ (6 : Int).toNat; decide +kernel), ?_⟩⟩
      refine ⟨_, rfl, _, _, rfl, rfl, ⟨by decide, by decide +kernel⟩, _, _, rfl, rfl, _, _, rfl, ?_⟩
      refine ⟨_, rfl, .inl ⟨_, rfl, _, _, rfl, rfl, (by show (0 : Int) < 2147483477; decide), _, _, rfl, rfl, .inr ⟨by decide, by decide⟩, .int m, rfl, _, _, rfl, rfl, .inl ⟨by decide, by decide⟩, _, _, rfl, rfl, _, rfl, _, _, rfl, rfl, .inr ⟨_, rfl, _, _, rfl, rfl, .inl ⟨by decide, by decide⟩, _, _, rfl, rfl, _, _, rfl, rfl, ?_⟩⟩⟩
      refine ⟨by show 3 ≤ sizeLine; decide, fun S hS => k _ _ (new_same hS) hS ⟨_, _, _, upd_same⟩⟩
theorem cl__law_sack (T : Txt K mg) : Cl P w K mg base 1 "_law_sack" (spSack K) := by
  obtain ⟨f, fd, F, hm, hb⟩ := T.f__law_sack
  exact cl_of (ok__law_sack F T) hm F.kp hb
def spDrawn : Sp := fun vs H Q _ => ∃ (S : Addr) (t : Int), vs = [.ref S, .int t] ∧ Sk H (some S) ∧ 0 < t ∧ t < 10 ^ 60 ∧ ∀ H' (r : Int), Rs (some S) H H' → 0 ≤ r → r < t → Q (.int r) H'
theorem rs_put {H H1 : Hp} {S : Addr} {x y z : Int} (r : Rs (some S) H H1) : Rs (some S) H (upd H1 S (.lst [.int x, .int y, .int z])) := ⟨r.s0, ⟨x, y, z, upd_same⟩, fun a o n e => by
  rw [upd_ne (fun q => n (by rw [q]))]
  exact r.keep a o n e⟩
theorem ok__law_drawn {f : Addr} {fd : FuncData} (F : Fun K "_law_drawn" "_law_drawn" st__law_drawn f fd) (T : Txt K mg) : FnOk P w K mg base CX0 1 f fd ["sack", "total"] spDrawn := by
  refine F.ok sc__law_drawn (fun vs H Q E h => ?_) (fun cdv A outer s H vs Q E hr h => ?_)
  · obtain ⟨S, t, rfl, _⟩ := h
    rfl
  · obtain ⟨S, t, rfl, hS, t0, t1, k⟩ := h
    have r0 : Rs (some S) H H := .of hS
    obtain ⟨a, b, c, e⟩ := hS
    have md : ∀ i : Int, 0 ≤ i % t ∧ i % t < t := fun i => ⟨Int.emod_nonneg _ (by omega), Int.emod_lt_of_pos _ t0⟩
    refine ⟨_, (pss_cons (ps_if (pt_cmpR op_gt (pe_ix (kix_list (K := K)) (pv 0) pe_int (fun _ _ => rfl)) pe_int (nomark _)) (pss_cons (ps_set (i := 2) sc__law_drawn.nd rfl (Or.inl rfl) (pe_op op_mod (pe_callTy call_int1 (by rfl) T.n_int bo_int (pa_cons (pe_ix (kix_list (K := K)) (pv 0) pe_int (fun _ _ => rfl)) pa_nil)) (pv 1))) (pss_cons (ps_asg (pe_op op_fdivW (pe_ix (kix_list (K := K)) (pv 0) pe_int (fun _ _ => rfl)) (pv 1)) (pg_sub (pv 0) pe_int set_list)) (pss_one (ps_ret (pv 2))))) pss_nil) (pss_cons (ps_asg (pe_op op_add (pe_ix (kix_list (K := K)) (pv 0) pe_int (fun _ _ => rfl)) pe_int) (pg_sub (pv 0) pe_int set_list)) (pss_cons (ps_set (i := 3) sc__law_drawn.nd rfl (Or.inl rfl) (pe_op op_mod (pe_callTy call_int1 (by rfl) T.n_int bo_int (pa_cons (pe_op op_add (pe_ix (kix_list (K := K)) (pv 0) pe_int (fun _ _ => rfl)) (pe_op op_mul pe_int (pe_ix (kix_list (K := K)) (pv 0) pe_int (fun _ _ => rfl)))) pa_nil)) pe_int)) (pss_cons (ps_set (i := 4) sc__law_drawn.nd rfl (Or.inl rfl) (pe_op op_add (pe_op op_mul (pe_op op_mod (pe_callTy call_int1 (by rfl) T.n_int bo_int (pa_cons (pe_op op_add (pe_op op_mul (pv 3) (pv 3)) (pe_op op_mul pe_int (pe_ix (kix_list (K := K)) (pv 0) pe_int (fun _ _ => rfl)))) pa_nil)) pe_int) pe_int) (pv 3))) (pss_one (ps_ret (pe_op op_mod (pe_callTy call_int1 (by rfl) T.n_int bo_int (pa_cons (pe_op op_fdivW (pv 4) pe_int) pa_nil)) (pv 1)))))))), ?_⟩
    refine ⟨.ref S, rfl, S, _, 0, .int a, rfl, rfl, lst_of e, rfl, _, _, rfl, rfl, _, rfl, ite2 (fun h1 => ?_) fun h1 => ?_⟩
    · refine ⟨.ref S, rfl, S, _, 0, .int a, rfl, rfl, lst_of e, rfl, .inl ⟨a, rfl, .int t, rfl, _, _, rfl, rfl, t0, ?_⟩⟩
      refine ⟨.ref S, rfl, S, _, 0, .int a, rfl, rfl, lst_of e, rfl, .int t, rfl, _, _, rfl, rfl, wide_div (b := 200) t0 (by omega) (by decide) (by decide), ?_⟩
      refine ⟨.ref S, rfl, S, _, 0, 0, rfl, rfl, e, rfl, ?_⟩
      exact ⟨.int (a % t), rfl, k _ _ (rs_put r0) (md a).1 (md a).2⟩
    · refine ⟨.ref S, rfl, S, _, 2, .int c, rfl, rfl, lst_of e, rfl, _, _, rfl, rfl, .ref S, rfl, S, _, 2, 2, rfl, rfl, e, rfl, ?_⟩
      refine ⟨.ref S, rfl, S, _, 1, .int b, rfl, rfl, lst_of upd_same, rfl, .ref S, rfl, S, _, 2, .int (c + 1), rfl, rfl, lst_of upd_same, rfl, _, _, rfl, rfl, .inl ⟨by decide, by decide⟩, _, _, rfl, rfl, .inl ⟨_, rfl, _, _, rfl, rfl, (by show (0 : Int) < 2305843009213693951; decide), ?_⟩⟩
      have o1 : ∀ i : Int, 0 ≤ i % 2305843009213693951 ∧ i % 2305843009213693951 < 2305843009213693951 := fun i => ⟨Int.emod_nonneg _ (by omega), Int.emod_lt_of_pos _ (by omega)⟩
      have cm : ∀ i j : Int, CMul (i % 2305843009213693951) j := fun i j => .inl ⟨by have := o1 i; omega, by have := o1 i; omega⟩
      refine ⟨_, rfl, _, rfl, _, _, rfl, rfl, cm _ _, .ref S, rfl, S, _, 2, .int (c + 1), rfl, rfl, lst_of upd_same, rfl, _, _, rfl, rfl, .inl ⟨by decide, by decide⟩, _, _, rfl, rfl, .inl ⟨_, rfl, _, _, rfl, rfl, (by show (0 : Int) < 2305843009213693951; decide), _, _, rfl, rfl, .inr ⟨by decide, by decide⟩, _, rfl, _, _, rfl, rfl, ?_⟩⟩
      refine ⟨_, rfl, _, _, rfl, rfl, ⟨by decide, by decide +kernel⟩, .inl ⟨_, rfl, .int t, rfl, _, _, rfl, rfl, t0, ?_⟩⟩
      exact k _ _ (rs_put r0) (md _).1 (md _).2
theorem cl__law_drawn (T : Txt K mg) : Cl P w K mg base 1 "_law_drawn" spDrawn := by
  obtain ⟨f, fd, F, hm, hb⟩ := T.f__law_drawn
  exact cl_of (ok__law_drawn F T) hm F.kp hb
def spLBare (K : PySem.W.Frag) : Sp := fun vs H Q _ => ∃ (a : Addr) (ns : List Int), vs = [.ref a] ∧ SqA K H a (ns.map V.int) ∧ ns.length ≤ 20000 ∧ ∀ H' p, Same H H' → SqT K H' p ((Fr.red ns).map V.int) → Q (.ref p) H'
theorem ok__law_bare {f : Addr} {fd : FuncData} (F : Fun K "_law_bare" "_law_bare" st__law_bare f fd) (T : Txt K mg) : FnOk P w K mg base CX0 1 f fd ["row"] (spLBare K) := by
  refine F.ok sc__law_bare (fun vs H Q E h => ?_) (fun cdv A outer s H vs Q E hr h => ?_)
  · obtain ⟨a, ns, rfl, _⟩ := h
    rfl
  · obtain ⟨a, ns, rfl, h, hz, k⟩ := h
    let Pv : Addr → Nat → L2.St → Hp → Prop := fun l i σ H' => H l = none ∧ Same H H' ∧ H' l = some (.lst (kp ns i)) ∧ ∃ x, σ = [some (.ref a), some (.ref l), x]
    have zl : ∀ {j : Nat}, j ≤ ns.length → j < sizeLine := fun hj => Nat.lt_of_le_of_lt (Nat.le_trans hj hz) (by decide)
    have last : ∀ (l : Addr) (σ : L2.St) (H' : Hp), Pv l (ns.map V.int).length σ H' → (tRet (tCB (rTupOf K) (tCons (tVar 1) tNil))) { nx := fun _ H' => Q .non H', rt := Q } σ H' := fun l σ H' ⟨hl, s1, d1, x, es⟩ => by
      subst es
      refine ⟨.ref l, rfl, l, _, rfl, .inl ⟨lst_of d1, fun q hq => k _ _ (Same.trans s1 (new_same hq)) (tup_of ?_)⟩⟩
      rw [upd_same, List.length_map, kp_end]
    rcases h with h | h
    · refine ⟨_, (pss_cons (ps_set (i := 1) sc__law_bare.nd rfl (Or.inl rfl) (pe_lst pa_nil)) (pss_cons (ps_for PassesOwn.never rfl (kpi_list (K := K) (pv 0)) (pg_name (i := 2) sc__law_bare.nd rfl (Or.inl rfl)) (pss_one (ps_if (PW.pt (pw_and (pt_cmpR (kop_neD (K := K) hr.units) (pv 1) (pe_lst pa_nil) (nomark _)) (pw_and1 (pt_cmpR op_eq (pe_ix (kix_list (K := K)) (pv 1) (pe_un un_neg pe_int) (fun _ _ => rfl)) (pe_op op_sub pe_int (pv 2)) (nomark _))))) (pss_one (ps_expr (pe_bm0 PySem.F.plainAttrs_list PySem.F.slot_list_pop PySem.F.type_list_pop mt_pop (pv 1)))) (pss_one (ps_expr (pe_bm PySem.F.plainAttrs_list PySem.F.slot_list_append PySem.F.type_list_append mt_append (pv 1) (pa_cons (pv 2) pa_nil))))))) (pss_one (ps_ret (pe_callTy (kcall_tuple (K := K)) (by rfl) T.n_tuple bo_tuple (pa_cons (pv 1) pa_nil)))))), ?_⟩
      refine ⟨Nat.zero_le _, fun l hl => ⟨.ref a, rfl, a, rfl, ⟨_, (Rs.same (S := none) True.intro (new_same hl)).lst (fun q => nomatch q) h⟩, for_list (K := K) (a := a) (xs := ns.map V.int) (Pv l) ⟨hl, new_same hl, upd_same, none, rfl⟩ (fun i σ H' _ p => (Rs.same (S := none) True.intro p.2.1).lst (fun q => nomatch q) h) (fun i x σ H' hx p => ?_) fun σ H' p => last l σ H' p⟩⟩
      obtain ⟨_, s1, d1, y, rfl⟩ := p
      obtain ⟨e, he, rfl⟩ := get_int hx
      have at1 := act_take he
      have hlt : (kp ns i).length < sizeLine := zl (kp_len ns i)
      refine ⟨.ref l, rfl, Nat.zero_le _, fun z hz0 => ?_⟩
      have nz : l ≠ z := fun q => by rw [q, hz0] at d1; cases d1
      have s2 := Same.trans s1 (new_same (o := .lst []) hz0)
      have d2 : upd H' z (.lst []) l = some (.lst (kp ns i)) := by rw [upd_ne nz]; exact d1
      have ez : upd H' z (.lst []) z = some (.lst (([] : List Int).map V.int)) := upd_same
      generalize upd H' z (.lst []) = H2 at s2 d2 ez
      refine ne_list (lst_of d2) (lst_of ez) ⟨_, rfl, ?_⟩
      cases q : Fr.act (ns.take i) [] with
      | nil =>
        have ek : kp ns i = [] := by unfold kp; rw [q]; rfl
        have ek1 : kp ns (i + 1) = [.int e] := by unfold kp; rw [at1, q]; rfl
        refine ⟨.ref l, rfl, .inl ⟨rfl, _, SqL.of d2⟩, .int e, rfl, l, _, _, rfl, rfl, d2, hlt, hl, same_mut s2 hl, ?_, some (.int e), rfl⟩
        rw [upd_same, ek, ek1]
        rfl
      | cons y1 t =>
        have ek : kp ns i = (t.reverse.map V.int) ++ [.int y1] := by unfold kp; rw [q, List.reverse_cons, List.map_append]; rfl
        have en : (!decide ((y1 :: t).reverse = [])) = true := by simp
        show if (!decide ((y1 :: t).reverse = [])) = true then _ else _
        rw [if_pos en]
        refine ⟨.ref l, rfl, 1, rfl, l, _, _, .int y1, rfl, rfl, lst_of d2, by rw [ek]; exact atI_last _ _, .int e, rfl, _, _, rfl, rfl, rfl, _, rfl, ?_⟩
        refine ite2 (fun h1 => ?_) fun h1 => ?_
        · have h1 : y1 = -e := by have := V.int.inj (of_decide_eq_true h1); omega
          have ek1 : kp ns (i + 1) = t.reverse.map V.int := by unfold kp; rw [at1, q, Fr.push_eq h1]
          refine ⟨.ref l, rfl, .inl ⟨rfl, _, SqL.of d2⟩, l, _, .int y1, rfl, rfl, d2, by rw [ek]; simp, hl, same_mut s2 hl, ?_, some (.int e), rfl⟩
          rw [upd_same, ek, ek1, List.dropLast_concat]
        · have h1 : ¬ y1 = -e := fun z => h1 (decide_eq_true (congrArg V.int (by omega)))
          have ek1 : kp ns (i + 1) = kp ns i ++ [.int e] := by unfold kp; rw [at1, q, Fr.push_on h1, List.reverse_cons, List.map_append]; rfl
          refine ⟨.ref l, rfl, .inl ⟨rfl, _, SqL.of d2⟩, .int e, rfl, l, _, _, rfl, rfl, d2, hlt, hl, same_mut s2 hl, ?_, some (.int e), rfl⟩
          rw [upd_same, ek1]
    · refine ⟨_, (pss_cons (ps_set (i := 1) sc__law_bare.nd rfl (Or.inl rfl) (pe_lst pa_nil)) (pss_cons (ps_for PassesOwn.never rfl (kpi_tup (K := K) (pv 0)) (pg_name (i := 2) sc__law_bare.nd rfl (Or.inl rfl)) (pss_one (ps_if (PW.pt (pw_and (pt_cmpR (kop_neD (K := K) hr.units) (pv 1) (pe_lst pa_nil) (nomark _)) (pw_and1 (pt_cmpR op_eq (pe_ix (kix_list (K := K)) (pv 1) (pe_un un_neg pe_int) (fun _ _ => rfl)) (pe_op op_sub pe_int (pv 2)) (nomark _))))) (pss_one (ps_expr (pe_bm0 PySem.F.plainAttrs_list PySem.F.slot_list_pop PySem.F.type_list_pop mt_pop (pv 1)))) (pss_one (ps_expr (pe_bm PySem.F.plainAttrs_list PySem.F.slot_list_append PySem.F.type_list_append mt_append (pv 1) (pa_cons (pv 2) pa_nil))))))) (pss_one (ps_ret (pe_callTy (kcall_tuple (K := K)) (by rfl) T.n_tuple bo_tuple (pa_cons (pv 1) pa_nil)))))), ?_⟩
      refine ⟨Nat.zero_le _, fun l hl => ⟨.ref a, rfl, a, rfl, ⟨_, same_tup (new_same hl) h⟩, for_tup (K := K) (a := a) (xs := ns.map V.int) (Pv l) ⟨hl, new_same hl, upd_same, none, rfl⟩ (fun i σ H' _ p => same_tup p.2.1 h) (fun i x σ H' hx p => ?_) fun σ H' p => last l σ H' p⟩⟩
      obtain ⟨_, s1, d1, y, rfl⟩ := p
      obtain ⟨e, he, rfl⟩ := get_int hx
      have at1 := act_take he
      have hlt : (kp ns i).length < sizeLine := zl (kp_len ns i)
      refine ⟨.ref l, rfl, Nat.zero_le _, fun z hz0 => ?_⟩
      have nz : l ≠ z := fun q => by rw [q, hz0] at d1; cases d1
      have s2 := Same.trans s1 (new_same (o := .lst []) hz0)
      have d2 : upd H' z (.lst []) l = some (.lst (kp ns i)) := by rw [upd_ne nz]; exact d1
      have ez : upd H' z (.lst []) z = some (.lst (([] : List Int).map V.int)) := upd_same
      generalize upd H' z (.lst []) = H2 at s2 d2 ez
      refine ne_list (lst_of d2) (lst_of ez) ⟨_, rfl, ?_⟩
      cases q : Fr.act (ns.take i) [] with
      | nil =>
        have ek : kp ns i = [] := by unfold kp; rw [q]; rfl
        have ek1 : kp ns (i + 1) = [.int e] := by unfold kp; rw [at1, q]; rfl
        refine ⟨.ref l, rfl, .inl ⟨rfl, _, SqL.of d2⟩, .int e, rfl, l, _, _, rfl, rfl, d2, hlt, hl, same_mut s2 hl, ?_, some (.int e), rfl⟩
        rw [upd_same, ek, ek1]
        rfl
      | cons y1 t =>
        have ek : kp ns i = (t.reverse.map V.int) ++ [.int y1] := by unfold kp; rw [q, List.reverse_cons, List.map_append]; rfl
        have en : (!decide ((y1 :: t).reverse = [])) = true := by simp
        show if (!decide ((y1 :: t).reverse = [])) = true then _ else _
        rw [if_pos en]
        refine ⟨.ref l, rfl, 1, rfl, l, _, _, .int y1, rfl, rfl, lst_of d2, by rw [ek]; exact atI_last _ _, .int e, rfl, _, _, rfl, rfl, rfl, _, rfl, ?_⟩
        refine ite2 (fun h1 => ?_) fun h1 => ?_
        · have h1 : y1 = -e := by have := V.int.inj (of_decide_eq_true h1); omega
          have ek1 : kp ns (i + 1) = t.reverse.map V.int := by unfold kp; rw [at1, q, Fr.push_eq h1]
          refine ⟨.ref l, rfl, .inl ⟨rfl, _, SqL.of d2⟩, l, _, .int y1, rfl, rfl, d2, by rw [ek]; simp, hl, same_mut s2 hl, ?_, some (.int e), rfl⟩
          rw [upd_same, ek, ek1, List.dropLast_concat]
        · have h1 : ¬ y1 = -e := fun z => h1 (decide_eq_true (congrArg V.int (by omega)))
          have ek1 : kp ns (i + 1) = kp ns i ++ [.int e] := by unfold kp; rw [at1, q, Fr.push_on h1, List.reverse_cons, List.map_append]; rfl
          refine ⟨.ref l, rfl, .inl ⟨rfl, _, SqL.of d2⟩, .int e, rfl, l, _, _, rfl, rfl, d2, hlt, hl, same_mut s2 hl, ?_, some (.int e), rfl⟩
          rw [upd_same, ek1]
theorem cl__law_bare (T : Txt K mg) : Cl P w K mg base 1 "_law_bare" (spLBare K) := by
  obtain ⟨f, fd, F, hm, hb⟩ := T.f__law_bare
  exact cl_of (ok__law_bare F T) hm F.kp hb
theorem ok__law_back {f : Addr} {fd : FuncData} (F : Fun K "_law_back" "_law_back" st__law_back f fd) (T : Txt K mg) : FnOk P w K mg base CX0 1 f fd ["word"] (spOpp K) := by
  refine F.ok sc__law_back (fun vs H Q E h => ?_) (fun cdv A outer s H vs Q E hr h => ?_)
  · obtain ⟨a, ns, rfl, _⟩ := h
    rfl
  · obtain ⟨a, ns, rfl, h, hz, k⟩ := h
    refine ⟨_, (pss_one (ps_ret (pe_callTy (kcall_tuple (K := K)) (by rfl) T.n_tuple bo_tuple (pa_cons (pe_lc (own := [("entry", 1)]) rfl sc__law_back.nd (kpi_tup (K := K) (kpe_revT (K := K) (pv 0))) (blkOk_by (N := nm__law_back) (sc := defScope st__law_back) (by decide +kernel)) (fun _ _ _ _ _ => (pg_name (i := 1) sc__law_back.nd rfl (by first | exact Or.inl rfl | exact Or.inr rfl))) (fun _ _ _ _ _ => pts_nil) (fun _ _ _ _ _ => (pe_op op_sub pe_int (pv 1)))) pa_nil)))), ?_⟩
    refine ⟨.ref a, rfl, a, _, rfl, h, fun p hp => ⟨p, rfl, ⟨_, tup_of upd_same⟩, fun D hD => lc_tup (K := K) (a := p) (xs := (ns.map V.int).reverse) (fun i H' => Same (upd H p (.tup (ns.map V.int).reverse)) H' ∧ H' D = some (.lst (((ns.reverse.take i).map fun x => -x).map V.int))) ⟨new_same hD, upd_same⟩ (fun i H' _ q => same_tup q.1 (tup_of upd_same)) (fun i x H' hx q => ?_) fun H' q => ?_⟩⟩
    · rw [← List.map_reverse] at hx
      have hi : i < ns.length := by
        have := (List.getElem?_eq_some_iff.mp hx).1
        rw [List.length_map, List.length_reverse] at this
        exact this
      rw [List.getElem?_map] at hx
      cases z : ns.reverse[i]? with
      | none => rw [z] at hx; cases hx
      | some e =>
        rw [z] at hx
        cases hx
        refine ⟨rfl, .int e, rfl, _, _, rfl, rfl, _, q.2, Nat.lt_of_le_of_lt (Nat.le_trans (by rw [List.length_map, List.length_map, List.length_take]; omega) hz) (by decide), same_mut q.1 hD, ?_⟩
        rw [upd_same, opp_take ns i e z, List.map_append]
        show some (HO.lst (_ ++ [V.int (0 - e)])) = some (HO.lst (_ ++ [V.int (-e)]))
        rw [Int.zero_sub]
    · refine ⟨D, _, rfl, .inl ⟨lst_of q.2, fun l hl => k _ _ (Same.trans (Same.trans (new_same hp) q.1) (new_same hl)) (tup_of ?_)⟩⟩
      rw [upd_same, List.length_reverse, List.length_map, opp_all]
theorem cl__law_back (T : Txt K mg) : Cl P w K mg base 1 "_law_back" (spOpp K) := by
  obtain ⟨f, fd, F, hm, hb⟩ := T.f__law_back
  exact cl_of (ok__law_back F T) hm F.kp hb
def spWord (K : PySem.W.Frag) : Sp := fun vs H Q _ => ∃ (S : Addr) (n m : Int), vs = [.ref S, .int n, .int m] ∧ Sk H (some S) ∧ 1 ≤ n ∧ n ≤ 5 ∧ 0 ≤ m ∧ m ≤ 1000 ∧ ∀ H' p ns, Rs (some S) H H' → SqT K H' p (ns.map V.int) → Wd n ns → (ns.length : Int) ≤ m → Q (.ref p) H'
theorem letter_of {n r s : Int} (n5 : n ≤ 5) (a0 : 0 ≤ r) (a1 : r < n) (b0 : 0 ≤ s) (b1 : s < 2) : (1 + r) * (1 - 2 * s) ≠ 0 ∧ -n ≤ (1 + r) * (1 - 2 * s) ∧ (1 + r) * (1 - 2 * s) ≤ n := by
  have : s = 0 ∨ s = 1 := by omega
  rcases this with h | h <;> subst h <;> omega
theorem sk_upd {H : Hp} {S l : Addr} {o : HO} (h : Sk H (some S)) (n : S ≠ l) : Sk (upd H l o) (some S) := by
  obtain ⟨a, b, c, e⟩ := h
  exact ⟨a, b, c, by rw [upd_ne n]; exact e⟩
theorem rs_new {H : Hp} {S l : Addr} {o : HO} (h : Sk H (some S)) (hl : H l = none) : Rs (some S) H (upd H l o) := .same h (new_same hl)
theorem sk_ne {H : Hp} {S l : Addr} (h : Sk H (some S)) (hl : H l = none) : S ≠ l := fun q => by
  subst q
  obtain ⟨a, b, c, e⟩ := h
  rw [hl] at e
  cases e
/-- a list that was not there changes -/
theorem rs_mut {H H1 : Hp} {S l : Addr} {o : HO} (r : Rs (some S) H H1) (hl : H l = none) : Rs (some S) H (upd H1 l o) := ⟨r.s0, sk_upd r.s1 (sk_ne r.s0 hl), fun a u n e => by
  rw [upd_ne (ne_of_none e hl)]
  exact r.keep a u n e⟩
theorem ok__law_word {f : Addr} {fd : FuncData} (F : Fun K "_law_word" "_law_word" st__law_word f fd) (T : Txt K mg) : FnOk P w K mg base CX0 2 f fd ["sack", "letters", "most"] (spWord K) := by
  have c__law_drawn : Cl P w K mg base 1 "_law_drawn" spDrawn := cl__law_drawn T
  have c__law_bare : Cl P w K mg base 1 "_law_bare" (spLBare K) := cl__law_bare T
  refine F.ok sc__law_word (fun vs H Q E h => ?_) (fun cdv A outer s H vs Q E hr h => ?_)
  · obtain ⟨S, n, m, rfl, _⟩ := h
    rfl
  · obtain ⟨S, n, m, rfl, hS, n1, n5, m0, m1, k⟩ := h
    refine ⟨_, (pss_cons (ps_set (i := 3) sc__law_word.nd rfl (Or.inl rfl) (pe_lst pa_nil)) (pss_cons (ps_for PassesOwn.never rfl (pi_range1 rfl T.n_range (pa_cons (pe_f c__law_drawn hr (by decide) rfl (pa_cons (pv 0) (pa_cons (pe_op op_add (pv 2) pe_int) pa_nil))) pa_nil)) (pg_name (i := 4) sc__law_word.nd rfl (Or.inl rfl)) (pss_one (ps_expr (pe_bm PySem.F.plainAttrs_list PySem.F.slot_list_append PySem.F.type_list_append mt_append (pv 3) (pa_cons (pe_op op_mul (pe_op op_add pe_int (pe_f c__law_drawn hr (by decide) rfl (pa_cons (pv 0) (pa_cons (pv 1) pa_nil)))) (pe_op op_sub pe_int (pe_op op_mul pe_int (pe_f c__law_drawn hr (by decide) rfl (pa_cons (pv 0) (pa_cons pe_int pa_nil)))))) pa_nil))))) (pss_one (ps_ret (pe_f c__law_bare hr (by decide) rfl (pa_cons (pv 3) pa_nil)))))), ?_⟩
    refine ⟨Nat.zero_le _, fun l hl => ?_⟩
    have nSl := sk_ne hS hl
    refine ⟨.ref S, rfl, .int m, rfl, _, _, rfl, rfl, S, _, rfl, sk_upd hS nSl, by omega, by omega, fun H1 r r1 a0 a1 => ?_⟩
    have d1 : H1 l = some (.lst []) := r1.keep _ _ (fun q => nSl (Option.some.inj q)) upd_same
    have s1 : Rs (some S) H H1 := (rs_new hS hl).tr r1
    refine ⟨r, rfl, by omega, by omega, for_range (lo := 0) (n := r.toNat) (fun i σ H' => Rs (some S) H H' ∧ ∃ es, H' l = some (.lst (es.map V.int)) ∧ es.length = i ∧ Lt n es ∧ ∃ x, σ = [some (.ref S), some (.int n), some (.int m), some (.ref l), x]) ⟨s1, [], d1, rfl, lt_nil, none, rfl⟩ (fun i σ H' hi p => ?_) fun σ H' p => ?_⟩
    · obtain ⟨s2, es, d2, el, lt2, x, rfl⟩ := p
      refine ⟨.ref l, rfl, .inl ⟨rfl, _, SqL.of d2⟩, .ref S, rfl, .int n, rfl, S, _, rfl, s2.s1, by omega, by omega, fun H2 u r2 b0 b1 => ?_⟩
      refine ⟨_, _, rfl, rfl, .ref S, rfl, S, _, rfl, r2.s1, by omega, by omega, fun H3 v r3 c0 c1 => ?_⟩
      have s3 := (s2.tr r2).tr r3
      have d3 : H3 l = some (.lst (es.map V.int)) := (r2.tr r3).keep _ _ (fun q => nSl (Option.some.inj q)) d2
      refine ⟨_, _, rfl, rfl, .inl ⟨by decide, by decide⟩, _, _, rfl, rfl, _, _, rfl, rfl, .inl ⟨by omega, by omega⟩, l, _, _, rfl, rfl, d3, small1000 (by rw [List.length_map]; omega), ?_⟩
      refine ⟨rs_mut s3 hl, es ++ [(1 + u) * (1 - 2 * v)], ?_, by rw [List.length_append, el]; rfl, lt_app lt2 fun i hi => ?_, some (.int (0 + i)), rfl⟩
      · rw [upd_same, List.map_append]
        rfl
      · rw [List.mem_singleton.mp hi]
        exact letter_of n5 b0 b1 c0 c1
    · obtain ⟨s2, es, d2, el, lt2, x, rfl⟩ := p
      refine ⟨.ref l, rfl, l, es, rfl, .inl (lst_of d2), by omega, fun H2 p e2 hp => k _ _ _ (s2.tr (.same s2.s1 e2)) hp (wd_red lt2) ?_⟩
      have := len_red es
      omega
theorem cl__law_word (T : Txt K mg) : Cl P w K mg base 2 "_law_word" (spWord K) := by
  obtain ⟨f, fd, F, hm, hb⟩ := T.f__law_word
  exact cl_of (ok__law_word F T) hm F.kp hb
def spRotd (K : PySem.W.Frag) : Sp := fun vs H Q _ => ∃ (a : Addr) (ns : List Int) (k : Nat), vs = [.ref a, .int (k : Int)] ∧ SqT K H a (ns.map V.int) ∧ k ≤ ns.length ∧ ns.length ≤ 20000 ∧ ∀ H' p, Same H H' → SqT K H' p ((Rg.rot ns k).map V.int) → Q (.ref p) H'
theorem ok_rotated {f : Addr} {fd : FuncData} (F : Fun K "rotated" "rotated" st_rotated f fd) (T : Txt K mg) : FnOk P w K mg base CX0 1 f fd ["row", "start"] (spRotd K) := by
  refine F.ok sc_rotated (fun vs H Q E h => ?_) (fun cdv A outer s H vs Q E hr h => ?_)
  · obtain ⟨a, ns, k, rfl, _⟩ := h
    rfl
  · obtain ⟨a, ns, k, rfl, h, hk, hz, q⟩ := h
    refine ⟨_, (pss_one (ps_ret (pe_op (kop_catA (K := K)) (pe_slice (ksl_tupA (K := K)) (pv 0) (po_some (pv 1)) po_none) (pe_slice (ksl_tupA (K := K)) (pv 0) po_none (po_some (pv 1)))))), ?_⟩
    refine ⟨.ref a, rfl, .int (k : Int), rfl, (k : Int), rfl, nopart (sl_ints h fun H1 p1 e1 h1 => ?_)⟩
    rw [cutI_from] at h1
    refine ⟨.ref a, rfl, .int (k : Int), rfl, (k : Int), rfl, sl_ints (same_tup e1 h) fun H2 p2 e2 h2 => ?_⟩
    rw [cutI_to] at h2
    refine cat_ints (same_tup e2 h1) h2 (by rw [List.length_drop, List.length_take]; omega) fun H3 p e3 hp => q _ _ (Same.trans (Same.trans e1 e2) e3) hp
theorem cl_rotated (T : Txt K mg) : Cl P w K mg base 1 "rotated" (spRotd K) := by
  obtain ⟨f, fd, F, hm, hb⟩ := T.f_rotated
  exact cl_of (ok_rotated F T) hm F.kp hb
def spLst (K : PySem.W.Frag) : Sp := fun vs H Q _ => ∃ (a : Addr) (ns : List Int), vs = [.ref a] ∧ SqT K H a (ns.map V.int) ∧ ∀ k : Nat, k ≤ ns.length → (ns ≠ [] → k < ns.length) → Rg.Least (Rg.sq ns) k → Q (.int (k : Int)) H
theorem sq_mod {ns : List Int} {k : Nat} (hp : 0 < ns.length) : (ns.map V.int)[k % ns.length]? = some (.int (Rg.sq ns k)) := by
  rw [List.getElem?_map, getD_of (Nat.mod_lt _ hp)]
  rfl
theorem ok_least_start {f : Addr} {fd : FuncData} (F : Fun K "least_start" "least_start" st_least_start f fd) (T : Txt K mg) : FnOk P w K mg base CX0 1 f fd ["row"] (spLst K) := by
  refine F.ok sc_least_start (fun vs H Q E h => ?_) (fun cdv A outer s H vs Q E hr h => ?_)
  · obtain ⟨a, ns, rfl, _⟩ := h
    rfl
  · obtain ⟨a, ns, rfl, h, q⟩ := h
    refine ⟨_, (pss_cons (ps_set (i := 1) sc_least_start.nd rfl (Or.inl rfl) (pe_callB (kcall_len (K := K)) (by rfl) T.n_len bo_len (pa_cons (pv 0) pa_nil))) (pss_cons (ps_set (i := 2) sc_least_start.nd rfl (Or.inl rfl) pe_int) (pss_cons (ps_set (i := 3) sc_least_start.nd rfl (Or.inl rfl) pe_int) (pss_cons (ps_set (i := 4) sc_least_start.nd rfl (Or.inl rfl) pe_int) (pss_cons (ps_while PassesOwn.never (PW.pt (pw_and (pt_cmpR op_lt (pv 2) (pv 1) (nomark _)) (pw_and (pt_cmpR op_lt (pv 3) (pv 1) (nomark _)) (pw_and1 (pt_cmpR op_lt (pv 4) (pv 1) (nomark _)))))) (pss_cons (ps_set (i := 5) sc_least_start.nd rfl (Or.inl rfl) (pe_ix (kix_tup (K := K)) (pv 0) (pe_op op_mod (pe_op op_add (pv 2) (pv 4)) (pv 1)) (fun _ _ => rfl))) (pss_cons (ps_set (i := 6) sc_least_start.nd rfl (Or.inl rfl) (pe_ix (kix_tup (K := K)) (pv 0) (pe_op op_mod (pe_op op_add (pv 3) (pv 4)) (pv 1)) (fun _ _ => rfl))) (pss_cons (ps_if (pt_cmpR op_eq (pv 5) (pv 6) (nomark _)) (pss_cons (ps_aug (i := 4) sc_least_start.nd rfl (Or.inl rfl) pe_int ip_add) (pss_one ps_continue)) pss_nil) (pss_cons (ps_if (pt_cmpR op_gt (pv 5) (pv 6) (nomark _)) (pss_one (ps_set (i := 2) sc_least_start.nd rfl (Or.inl rfl) (pe_op op_add (pe_op op_add (pv 2) (pv 4)) pe_int))) (pss_one (ps_set (i := 3) sc_least_start.nd rfl (Or.inl rfl) (pe_op op_add (pe_op op_add (pv 3) (pv 4)) pe_int)))) (pss_cons (ps_if (pt_cmpR op_eq (pv 2) (pv 3) (nomark _)) (pss_one (ps_aug (i := 3) sc_least_start.nd rfl (Or.inl rfl) pe_int ip_add)) pss_nil) (pss_one (ps_set (i := 4) sc_least_start.nd rfl (Or.inl rfl) pe_int)))))))) (pss_one (ps_ret (pe_callB (call_min2 rfl) (by rfl) T.n_min bo_min (pa_cons (pv 2) (pa_cons (pv 3) pa_nil)))))))))), ?_⟩
    refine ⟨.ref a, rfl, a, _, rfl, .inr h, ?_⟩
    rw [show (((ns.map V.int).length : Nat) : Int) = (ns.length : Int) by rw [List.length_map]]
    let St : Nat → Nat → Nat → Option V → Option V → L2.St := fun f s k x y => [some (.ref a), some (.int (ns.length : Int)), some (.int (f : Int)), some (.int (s : Int)), some (.int (k : Int)), x, y]
    refine ⟨fun m σ H' => ∃ (f s k : Nat) (x y : Option V), m = 3 * ns.length + 5 - (f + s + k) ∧ (ns.length = 0 → f = 0 ∧ s = 1) ∧ Rg.Inv (Rg.sq ns) f s k ∧ H' = H ∧ σ = St f s k x y, ⟨_, 0, 1, 0, none, none, rfl, fun _ => ⟨rfl, rfl⟩, Rg.Inv.start, rfl, rfl⟩, fun m σ H' w => ?_⟩
    obtain ⟨f, s, k, x, y, rfl, h0, inv, rfl, rfl⟩ := w
    have fin : ¬ (f < ns.length ∧ s < ns.length ∧ k < ns.length) → Q (.int (if (s : Int) < (f : Int) then (s : Int) else (f : Int))) H' := fun hn => by
      have e : (if (s : Int) < (f : Int) then (s : Int) else (f : Int)) = ((min f s : Nat) : Int) := by split <;> omega
      rw [e]
      by_cases hz : ns.length = 0
      · obtain ⟨rfl, rfl⟩ := h0 hz
        have e0 : ns = [] := List.eq_nil_of_length_eq_zero hz
        subst e0
        exact q 0 (Nat.zero_le _) (fun z => absurd rfl z) (fun t ⟨j, _, z⟩ => by unfold Rg.sq at z; simp at z)
      · obtain ⟨g1, g2⟩ := inv.fin (Rg.per_sq ns) (by omega) hn
        exact q _ (by omega) (fun _ => g1) g2
    have last : ¬ (f < ns.length ∧ s < ns.length ∧ k < ns.length) → (tRet (tCB (fun xs H Q => ∃ i j, xs = [V.int i, V.int j] ∧ Q (V.int (if j < i then j else i)) H) (tCons (tVar 2) (tCons (tVar 3) tNil)))) { nx := fun _ H' => Q .non H', rt := Q } (St f s k x y) H' := fun hn => ⟨.int (f : Int), rfl, .int (s : Int), rfl, _, _, rfl, fin hn⟩
    refine ⟨.int (f : Int), rfl, .int (ns.length : Int), rfl, _, _, rfl, rfl, _, rfl, ite2 (fun h1 => ?_) fun h1 => last fun z => h1 (decide_eq_true (by omega))⟩
    have h1 : f < ns.length := by have := of_decide_eq_true h1; omega
    refine ⟨.int (s : Int), rfl, .int (ns.length : Int), rfl, _, _, rfl, rfl, _, rfl, ite2 (fun h2 => ?_) fun h2 => last fun z => h2 (decide_eq_true (by omega))⟩
    have h2 : s < ns.length := by have := of_decide_eq_true h2; omega
    refine ⟨.int (k : Int), rfl, .int (ns.length : Int), rfl, _, _, rfl, rfl, _, rfl, ite2 (fun h3 => ?_) fun h3 => last fun z => h3 (decide_eq_true (by omega))⟩
    have h3 : k < ns.length := by have := of_decide_eq_true h3; omega
    have hp : 0 < ns.length := by omega
    refine ⟨fun σ' H2 => ∃ (f' s' k' : Nat) (x y : Option V), f + s + k < f' + s' + k' ∧ Rg.Inv (Rg.sq ns) f' s' k' ∧ H2 = H' ∧ σ' = St f' s' k' x y, fun σ' H2 w => ?_, ?_⟩
    · obtain ⟨f', s', k', x, y, w1, w2, w3, w4⟩ := w
      exact ⟨_, by omega, f', s', k', x, y, rfl, fun z => by omega, w2, w3, w4⟩
    refine ⟨.ref a, rfl, .int (f : Int), rfl, .int (k : Int), rfl, _, _, rfl, rfl, .int (ns.length : Int), rfl, _, _, rfl, rfl, by show (0 : Int) < (ns.length : Int); omega, a, _, _, .int (Rg.sq ns (f + k)), rfl, rfl, h, at_int (j := (f + k) % ns.length) (by simp) (Nat.mod_lt _ hp), ?_⟩
    refine ⟨.ref a, rfl, .int (s : Int), rfl, .int (k : Int), rfl, _, _, rfl, rfl, .int (ns.length : Int), rfl, _, _, rfl, rfl, by show (0 : Int) < (ns.length : Int); omega, a, _, _, .int (Rg.sq ns (s + k)), rfl, rfl, h, at_int (j := (s + k) % ns.length) (by simp) (Nat.mod_lt _ hp), ?_⟩
    refine ⟨.int (Rg.sq ns (f + k)), rfl, .int (Rg.sq ns (s + k)), rfl, rfl, _, rfl, ?_⟩
    rw [dec_int]
    refine ite2 (fun g1 => ?_) fun g1 => ?_
    · have g1 := of_decide_eq_true g1
      exact ⟨.int (k : Int), rfl, _, _, rfl, rfl, f, s, k + 1, some (.int (Rg.sq ns (f + k))), some (.int (Rg.sq ns (s + k))), by omega, inv.grow g1, rfl, rfl⟩
    · have g1 : ¬ Rg.sq ns (f + k) = Rg.sq ns (s + k) := fun z => g1 (decide_eq_true z)
      refine ⟨.int (Rg.sq ns (f + k)), rfl, .int (Rg.sq ns (s + k)), rfl, _, _, rfl, rfl, _, rfl, ite2 (fun g2 => ?_) fun g2 => ?_⟩
      · have g2 : Rg.sq ns (s + k) < Rg.sq ns (f + k) := of_decide_eq_true g2
        refine ⟨.int (f : Int), rfl, .int (k : Int), rfl, _, _, rfl, rfl, _, _, rfl, rfl, ?_⟩
        refine ⟨.int ((f : Int) + (k : Int) + 1), rfl, .int (s : Int), rfl, rfl, _, rfl, ?_⟩
        rw [dec_int]
        refine ite2 (fun g3 => ?_) fun g3 => ?_
        · have g3 : (f : Int) + (k : Int) + 1 = (s : Int) := of_decide_eq_true g3
          refine ⟨.int (s : Int), rfl, _, _, rfl, rfl, f + k + 1, s + 1, 0, some (.int (Rg.sq ns (f + k))), some (.int (Rg.sq ns (s + k))), by omega, inv.on2 g2 (by omega), rfl, ?_⟩
          rfl
        · have g3 : ¬ (f : Int) + (k : Int) + 1 = (s : Int) := fun z => g3 (decide_eq_true z)
          exact ⟨f + k + 1, s, 0, some (.int (Rg.sq ns (f + k))), some (.int (Rg.sq ns (s + k))), by omega, inv.on g2 (by omega), rfl, rfl⟩
      · have g2 : Rg.sq ns (f + k) < Rg.sq ns (s + k) := by
          have : ¬ Rg.sq ns (s + k) < Rg.sq ns (f + k) := fun z => g2 (decide_eq_true z)
          omega
        refine ⟨.int (s : Int), rfl, .int (k : Int), rfl, _, _, rfl, rfl, _, _, rfl, rfl, ?_⟩
        refine ⟨.int (f : Int), rfl, .int ((s : Int) + (k : Int) + 1), rfl, rfl, _, rfl, ?_⟩
        rw [dec_int]
        refine ite2 (fun g3 => ?_) fun g3 => ?_
        · have g3 : (f : Int) = (s : Int) + (k : Int) + 1 := of_decide_eq_true g3
          refine ⟨.int ((s : Int) + (k : Int) + 1), rfl, _, _, rfl, rfl, f, s + k + 1 + 1, 0, some (.int (Rg.sq ns (f + k))), some (.int (Rg.sq ns (s + k))), by omega, ?_, rfl, rfl⟩
          have := inv.symm.on2 g2 (by omega)
          have e : f + 1 = s + k + 1 + 1 := by omega
          have e2 : s + k + 1 = f := by omega
          rw [e, e2] at this
          exact e2 ▸ this
        · have g3 : ¬ (f : Int) = (s : Int) + (k : Int) + 1 := fun z => g3 (decide_eq_true z)
          exact ⟨f, s + k + 1, 0, some (.int (Rg.sq ns (f + k))), some (.int (Rg.sq ns (s + k))), by omega, (inv.symm.on g2 (by omega)).symm, rfl, rfl⟩
theorem cl_least_start (T : Txt K mg) : Cl P w K mg base 1 "least_start" (spLst K) := by
  obtain ⟨f, fd, F, hm, hb⟩ := T.f_least_start
  exact cl_of (ok_least_start F T) hm F.kp hb
theorem spl_len {ns c m : List Int} (s : Spl ns c m) : c.length + m.length + c.length = ns.length := by
  have := congrArg List.length s.1
  rw [List.length_append, List.length_append, Fr.opp_len] at this
  omega
theorem ws_one {H : Hp} {n : Int} {a : Addr} {ns : List Int} (h : SqT K H a (ns.map V.int)) (hw : Wd n ns) (hl : ns.length ≤ 200) : Ws K H n [(a, ns)] := fun p hp => by
  rw [List.mem_singleton.mp hp]
  exact ⟨h, hw, hl⟩
theorem ws_two {H : Hp} {n : Int} {a b : Addr} {ns ms : List Int} (h : SqT K H a (ns.map V.int)) (hw : Wd n ns) (hl : ns.length ≤ 200) (g : SqT K H b (ms.map V.int)) (gw : Wd n ms) (gl : ms.length ≤ 200) : Ws K H n [(a, ns), (b, ms)] := fun p hp => by
  rcases List.mem_cons.mp hp with q | q
  · rw [q]; exact ⟨h, hw, hl⟩
  · rw [List.mem_singleton.mp q]; exact ⟨g, gw, gl⟩
theorem spl_rg {ns c m : List Int} (h : Spl ns c m) : Rg.Spl ns c m := h
def spRingOf (K : PySem.W.Frag) : Sp := fun vs H Q _ => ∃ (n : Int) (a : Addr) (ns : List Int), vs = [.ref a] ∧ SqT K H a (ns.map V.int) ∧ Wd n ns ∧ ns.length ≤ 20000 ∧ ∀ H' p r, Same H H' → Rg.RingW ns r → SqT K H' p (r.map V.int) → Q (.ref p) H'
theorem ok_ring_of {f : Addr} {fd : FuncData} (F : Fun K "ring_of" "ring_of" st_ring_of f fd) (T : Txt K mg) : FnOk P w K mg base CX0 2 f fd ["row"] (spRingOf K) := by
  have c_split_core : Cl P w K mg base 1 "split_core" (spSplit K) := cl_split_core T
  have c_least_start : Cl P w K mg base 1 "least_start" (spLst K) := cl_least_start T
  have c_rotated : Cl P w K mg base 1 "rotated" (spRotd K) := cl_rotated T
  refine F.ok sc_ring_of (fun vs H Q E h => ?_) (fun cdv A outer s H vs Q E hr h => ?_)
  · obtain ⟨n, a, ns, rfl, _⟩ := h
    rfl
  · obtain ⟨n, a, ns, rfl, h, hw, hz, q⟩ := h
    refine ⟨_, (pss_cons (ps_set (i := 1) sc_ring_of.nd rfl (Or.inl rfl) (pe_ix (kix_tup (K := K)) (pe_f c_split_core hr (by decide) rfl (pa_cons (pv 0) pa_nil)) pe_int (fun _ _ => rfl))) (pss_one (ps_ret (pe_f c_rotated hr (by decide) rfl (pa_cons (pv 1) (pa_cons (pe_f c_least_start hr (by decide) rfl (pa_cons (pv 1) pa_nil)) pa_nil)))))), ?_⟩
    refine ⟨.ref a, rfl, n, a, ns, rfl, h, hw, hz, fun H1 p pc pm c m e1 hs hp hc hm => ⟨p, _, _, _, rfl, rfl, hp, rfl, ?_⟩⟩
    refine ⟨.ref pm, rfl, .ref pm, rfl, pm, m, rfl, hm, fun k hk _ hl => ⟨pm, m, k, rfl, hm, hk, by have := spl_len hs; omega, fun H2 p2 e2 h2 => q _ _ _ (Same.trans e1 e2) ⟨c, m, spl_rg hs, Rg.ring_rot hk hl⟩ h2⟩⟩
theorem cl_ring_of (T : Txt K mg) : Cl P w K mg base 2 "ring_of" (spRingOf K) := by
  obtain ⟨f, fd, F, hm, hb⟩ := T.f_ring_of
  exact cl_of (ok_ring_of F T) hm F.kp hb
/-- what stands after some strikes where two rows meet -/
def Tm (xs ys : List Int) (j : Nat) : Prop := j ≤ xs.length ∧ j ≤ ys.length ∧ Fr.red (xs.take (xs.length - j) ++ ys.drop j) = Fr.red (xs ++ ys)
theorem tm_zero (xs ys : List Int) : Tm xs ys 0 := ⟨Nat.zero_le _, Nat.zero_le _, by rw [Nat.sub_zero, List.take_length, List.drop_zero]⟩
theorem take_cut {xs : List Int} {j : Nat} (h : j < xs.length) : xs.take (xs.length - j) = xs.take (xs.length - (j + 1)) ++ [xs.getD (xs.length - 1 - j) 0] := by
  have e : xs.length - j = (xs.length - 1 - j) + 1 := by omega
  have e2 : xs.length - (j + 1) = xs.length - 1 - j := by omega
  rw [e, List.take_succ, getD_of (show xs.length - 1 - j < xs.length by omega), e2]
  rfl
theorem drop_cut {ys : List Int} {j : Nat} (h : j < ys.length) : ys.drop j = ys.getD j 0 :: ys.drop (j + 1) := by
  rw [List.drop_eq_getElem_cons h, List.getD_eq_getElem?_getD, List.getElem?_eq_getElem h]
  rfl
theorem tm_succ {xs ys : List Int} {j : Nat} (h : Tm xs ys j) (h1 : j < xs.length) (h2 : j < ys.length) (he : xs.getD (xs.length - 1 - j) 0 = - ys.getD j 0) : Tm xs ys (j + 1) := by
  refine ⟨h1, h2, ?_⟩
  rw [← h.2.2, take_cut h1, drop_cut h2, List.append_assoc]
  exact (Fr.red_strike _ _ _ _ he).symm
theorem tm_end {xs ys : List Int} {j : Nat} (hx : Fr.Nf xs) (hy : Fr.Nf ys) (h : Tm xs ys j) (hs : ¬ (j < xs.length ∧ j < ys.length ∧ xs.getD (xs.length - 1 - j) 0 = - ys.getD j 0)) : xs.take (xs.length - j) ++ ys.drop j = Fr.red (xs ++ ys) := by
  have n1 : Fr.Nf (xs.take (xs.length - j)) := Fr.nf_front (b := xs.drop (xs.length - j)) (by rw [List.take_append_drop]; exact hx)
  have n2 : Fr.Nf (ys.drop j) := Fr.nf_back (a := ys.take j) (by rw [List.take_append_drop]; exact hy)
  rw [← h.2.2, Fr.red_id]
  refine Fr.nf_join n1 n2 fun x y q1 q2 => ?_
  have h1 : j < xs.length := by
    by_cases z : j < xs.length
    · exact z
    · rw [show xs.length - j = 0 by omega, List.take_zero] at q1
      cases q1
  have h2 : j < ys.length := by
    by_cases z : j < ys.length
    · exact z
    · rw [List.drop_of_length_le (by omega)] at q2
      cases q2
  rw [take_cut h1, List.getLast?_append] at q1
  rw [drop_cut h2] at q2
  cases q1
  cases q2
  exact fun z => hs ⟨h1, h2, z⟩
def spTimes (K : PySem.W.Frag) : Sp := fun vs H Q _ => ∃ (a b : Addr) (xs ys : List Int), vs = [.ref a, .ref b] ∧ SqT K H a (xs.map V.int) ∧ SqT K H b (ys.map V.int) ∧ Fr.Nf xs ∧ Fr.Nf ys ∧ xs.length ≤ 20000 ∧ ys.length ≤ 20000 ∧
  ∀ H' p, Same H H' → SqT K H' p ((Fr.red (xs ++ ys)).map V.int) → Q (.ref p) H'
theorem ok_times {f : Addr} {fd : FuncData} (F : Fun K "times" "times" st_times f fd) (T : Txt K mg) : FnOk P w K mg base CX0 1 f fd ["one", "other"] (spTimes K) := by
  refine F.ok sc_times (fun vs H Q E h => ?_) (fun cdv A outer s H vs Q E hr h => ?_)
  · obtain ⟨a, b, xs, ys, rfl, _⟩ := h
    rfl
  · obtain ⟨a, b, xs, ys, rfl, hx, hy, nx, ny, lx, ly, k⟩ := h
    refine ⟨_, (pss_cons (ps_set (i := 2) sc_times.nd rfl (Or.inl rfl) (pe_callB (call_min2 rfl) (by rfl) T.n_min bo_min (pa_cons (pe_callB (kcall_len (K := K)) (by rfl) T.n_len bo_len (pa_cons (pv 0) pa_nil)) (pa_cons (pe_callB (kcall_len (K := K)) (by rfl) T.n_len bo_len (pa_cons (pv 1) pa_nil)) pa_nil)))) (pss_cons (ps_set (i := 3) sc_times.nd rfl (Or.inl rfl) pe_int) (pss_cons (ps_while PassesOwn.never (PW.pt (pw_and (pt_cmpR op_lt (pv 3) (pv 2) (nomark _)) (pw_and1 (pt_cmpR op_eq (pe_ix (kix_tup (K := K)) (pv 0) (pe_op op_sub (pe_op op_sub (pe_callB (kcall_len (K := K)) (by rfl) T.n_len bo_len (pa_cons (pv 0) pa_nil)) pe_int) (pv 3)) (fun _ _ => rfl)) (pe_un un_neg (pe_ix (kix_tup (K := K)) (pv 1) (pv 3) (fun _ _ => rfl))) (nomark _))))) (pss_one (ps_aug (i := 3) sc_times.nd rfl (Or.inl rfl) pe_int ip_add))) (pss_one (ps_ret (pe_op (kop_catA (K := K)) (pe_slice (ksl_tupA (K := K)) (pv 0) po_none (po_some (pe_op op_sub (pe_callB (kcall_len (K := K)) (by rfl) T.n_len bo_len (pa_cons (pv 0) pa_nil)) (pv 3)))) (pe_slice (ksl_tupA (K := K)) (pv 1) (po_some (pv 3)) po_none))))))), ?_⟩
    refine ⟨.ref a, rfl, a, _, rfl, .inr hx, .ref b, rfl, b, _, rfl, .inr hy, _, _, rfl, ?_⟩
    rw [List.length_map, List.length_map]
    have fin : ∀ j : Nat, Tm xs ys j → ¬ (j < xs.length ∧ j < ys.length ∧ xs.getD (xs.length - 1 - j) 0 = - ys.getD j 0) → ∀ x : Option V, (tRet (tOp (rCatA K) (tSl (rSlA K) (tVar 0) tNoPart (tPart (tOp (rI0 fun i j => V.int (i - j)) (tCB (N0.rLen K) (tCons (tVar 0) tNil)) (tVar 3)))) (tSl (rSlA K) (tVar 1) (tPart (tVar 3)) tNoPart))) { nx := fun _ H' => Q .non H', rt := Q } [some (.ref a), some (.ref b), x, some (.int (j : Int))] H := fun j hj hs x => by
      refine ⟨.ref a, rfl, .ref a, rfl, a, _, rfl, .inr hx, ?_⟩
      rw [List.length_map]
      refine ⟨.int (j : Int), rfl, _, _, rfl, rfl, _, rfl, sl_ints hx fun H1 p1 e1 h1 => ?_⟩
      rw [show (xs.length : Int) - (j : Int) = ((xs.length - j : Nat) : Int) by have := hj.1; omega, cutI_to] at h1
      refine ⟨.ref b, rfl, .int (j : Int), rfl, (j : Int), rfl, nopart (sl_ints (same_tup e1 hy) fun H2 p2 e2 h2 => ?_)⟩
      rw [cutI_from] at h2
      refine cat_ints (same_tup e2 h1) h2 (by rw [List.length_drop, List.length_take]; omega) fun H3 p e3 hp => k _ _ (Same.trans (Same.trans e1 e2) e3) ?_
      rw [tm_end nx ny hj hs] at hp
      exact hp
    have em : (if (ys.length : Int) < (xs.length : Int) then (ys.length : Int) else (xs.length : Int)) = ((min xs.length ys.length : Nat) : Int) := by split <;> omega
    rw [em]
    refine ⟨fun m σ H' => ∃ j : Nat, m = xs.length - j ∧ Tm xs ys j ∧ H' = H ∧ σ = [some (.ref a), some (.ref b), some (.int ((min xs.length ys.length : Nat) : Int)), some (.int (j : Int))], ⟨xs.length, 0, rfl, tm_zero _ _, rfl, rfl⟩, fun m σ H' ⟨j, hm, hj, eH, es⟩ => ?_⟩
    subst eH es
    refine ⟨.int (j : Int), rfl, .int ((min xs.length ys.length : Nat) : Int), rfl, _, _, rfl, rfl, _, rfl, ite2 (fun h1 => ?_) fun h1 => fin j hj (fun z => h1 (decide_eq_true (by omega))) _⟩
    have h1 : (j : Int) < ((min xs.length ys.length : Nat) : Int) := of_decide_eq_true h1
    refine ⟨.ref a, rfl, .ref a, rfl, a, _, rfl, .inr hx, ?_⟩
    rw [List.length_map]
    refine ⟨_, _, rfl, rfl, .int (j : Int), rfl, _, _, rfl, rfl, a, _, _, _, rfl, rfl, hx, at_int (j := xs.length - 1 - j) (by omega) (by omega), ?_⟩
    refine ⟨.ref b, rfl, .int (j : Int), rfl, b, _, _, _, rfl, rfl, hy, at_int (j := j) rfl (by omega), _, rfl, rfl, _, rfl, ?_⟩
    rw [dec_int]
    refine ite2 (fun h2 => ?_) fun h2 => fin j hj (fun z => h2 (decide_eq_true z.2.2)) _
    have h2 := of_decide_eq_true h2
    exact ⟨fun σ' H2 => H2 = H' ∧ σ' = [some (.ref a), some (.ref b), some (.int ((min xs.length ys.length : Nat) : Int)), some (.int ((j : Int) + 1))], fun σ' H' ⟨e1, e2⟩ => ⟨xs.length - (j + 1), by omega, j + 1, rfl, tm_succ hj (by omega) (by omega) h2, e1, e2⟩, .int (j : Int), rfl, _, _, rfl, rfl, rfl, rfl⟩
theorem cl_times (T : Txt K mg) : Cl P w K mg base 1 "times" (spTimes K) := by
  obtain ⟨f, fd, F, hm, hb⟩ := T.f_times
  exact cl_of (ok_times F T) hm F.kp hb
/-- a row turned by another one -/
def spTurnedRow (K : PySem.W.Frag) : Sp := fun vs H Q _ => ∃ (a b : Addr) (ns bs : List Int), vs = [.ref a, .ref b] ∧ SqT K H a (ns.map V.int) ∧ SqT K H b (bs.map V.int) ∧ Fr.Nf ns ∧ Fr.Nf bs ∧ ns.length + bs.length ≤ 20000 ∧
  ∀ H' p, Same H H' → SqT K H' p ((Fr.red (bs ++ ns ++ Fr.opp bs)).map V.int) → Q (.ref p) H'
theorem red_len_le (w : List Int) : (Fr.red w).length ≤ w.length := by
  refine Fr.snoc_ind (P := fun w => (Fr.red w).length ≤ w.length) (Nat.le_refl _) (fun w e h => ?_) w
  rw [Fr.red_snoc, List.length_reverse, List.length_append]
  have h : (Fr.act w []).length ≤ w.length := by
    have : (Fr.red w).length ≤ w.length := h
    unfold Fr.red at this
    rw [List.length_reverse] at this
    exact this
  show _ ≤ w.length + 1
  cases z : Fr.act w [] with
  | nil => exact Nat.le_add_left 1 _
  | cons x t =>
    rw [z] at h
    have h : t.length + 1 ≤ w.length := h
    by_cases q : x = -e
    · rw [Fr.push_eq q]
      omega
    · rw [Fr.push_on q]
      show t.length + 1 + 1 ≤ _
      omega
theorem ok_turned_row {f : Addr} {fd : FuncData} (F : Fun K "turned_row" "turned_row" st_turned_row f fd) (T : Txt K mg) : FnOk P w K mg base CX0 2 f fd ["row", "by"] (spTurnedRow K) := by
  have c_times : Cl P w K mg base 1 "times" (spTimes K) := cl_times T
  have c_opposite : Cl P w K mg base 1 "opposite" (spOpp K) := cl_opposite T
  refine F.ok sc_turned_row (fun vs H Q E h => ?_) (fun cdv A outer s H vs Q E hr h => ?_)
  · obtain ⟨a, b, ns, bs, rfl, _⟩ := h
    rfl
  · obtain ⟨a, b, ns, bs, rfl, ha, hb, na, nb, hl, k⟩ := h
    refine ⟨_, (pss_one (ps_ret (pe_f c_times hr (by decide) rfl (pa_cons (pe_f c_times hr (by decide) rfl (pa_cons (pv 1) (pa_cons (pv 0) pa_nil))) (pa_cons (pe_f c_opposite hr (by decide) rfl (pa_cons (pv 1) pa_nil)) pa_nil))))), ?_⟩
    refine ⟨.ref b, rfl, .ref a, rfl, b, a, bs, ns, rfl, hb, ha, nb, na, by omega, by omega, fun H1 p1 e1 h1 => ?_⟩
    refine ⟨.ref b, rfl, b, bs, rfl, same_tup e1 hb, by omega, fun H2 p2 e2 h2 => ?_⟩
    have l1 := red_len_le (bs ++ ns)
    rw [List.length_append] at l1
    refine ⟨p1, p2, _, _, rfl, same_tup e2 h1, h2, Fr.red_nf _, Fr.nf_opp nb, by omega, by rw [Fr.opp_len]; omega, fun H3 p e3 hp => k _ _ (Same.trans (Same.trans e1 e2) e3) ?_⟩
    rw [Fr.red_app_l] at hp
    exact hp
theorem cl_turned_row (T : Txt K mg) : Cl P w K mg base 2 "turned_row" (spTurnedRow K) := by
  obtain ⟨f, fd, F, hm, hb⟩ := T.f_turned_row
  exact cl_of (ok_turned_row F T) hm F.kp hb
theorem tis3 {H : Hp} {a b c : Addr} {x y z : List Int} (h1 : SqT K H a (x.map V.int)) (h2 : SqT K H b (y.map V.int)) (h3 : SqT K H c (z.map V.int)) : Tis K H [(a, x), (b, y), (c, z)] := fun p hp => by
  rcases List.mem_cons.mp hp with q | hp
  · rw [q]; exact h1
  · rcases List.mem_cons.mp hp with q | hp
    · rw [q]; exact h2
    · rw [List.mem_singleton.mp hp]; exact h3
theorem fl3 (a b c : Addr) (x y z : List Int) : fl [(a, x), (b, y), (c, z)] = x ++ y ++ z := by
  unfold fl
  show x ++ (y ++ (z ++ [])) = _
  rw [List.append_nil, List.append_assoc]
def spCore (K : PySem.W.Frag) : Sp := fun vs H Q _ => ∃ (n : Int) (a : Addr) (ns : List Int), vs = [.int n, .ref a] ∧ 1 ≤ n ∧ n ≤ 5 ∧ SqT K H a (ns.map V.int) ∧ Wd n ns ∧ ns.length ≤ 200 ∧
  ∀ H' p pc pm c m, Same H H' → Spl ns c m → SqT K H' p [.ref pc, .ref pm] → SqT K H' pc (c.map V.int) → SqT K H' pm (m.map V.int) → Q (.ref p) H'
theorem ok_core {f : Addr} {fd : FuncData} (F : Fun K "core" "core" st_core f fd) (T : Txt K mg) : FnOk P w K mg base CX0 6 f fd ["letters", "word"] (spCore K) := by
  have c_check_words : Cl P w K mg base 5 "check_words" (spChkWords K) := cl_check_words T
  have c_split_core : Cl P w K mg base 1 "split_core" (spSplit K) := cl_split_core T
  refine F.ok sc_core (fun vs H Q E h => ?_) (fun cdv A outer s H vs Q E hr h => ?_)
  · obtain ⟨n, a, ns, rfl, _⟩ := h
    rfl
  · obtain ⟨n, a, ns, rfl, n1, n5, h, hw, hl, k⟩ := h
    refine ⟨_, (pss_cons (ps_expr (pe_f c_check_words hr (by decide) rfl (pa_cons (pv 0) (pa_cons (pe_tup (pa_cons (pv 1) pa_nil)) pa_nil)))) (pss_one (ps_ret (pe_f c_split_core hr (by decide) rfl (pa_cons (pv 1) pa_nil))))), ?_⟩
    refine ⟨.int n, rfl, .ref a, rfl, by show 1 ≤ sizeLine; decide, fun t ht => ⟨n, t, [(a, ns)], rfl, n1, n5, tup_of upd_same, ws_one (same_tup (new_same ht) h) hw hl, fun H1 e1 => ?_⟩⟩
    have e0 := Same.trans (new_same (o := .tup [.ref a]) ht) e1
    exact ⟨.ref a, rfl, n, a, ns, rfl, same_tup e0 h, hw, by omega, fun H2 p pc pm c m e2 hs hp hc hm => k _ _ _ _ _ _ (Same.trans e0 e2) hs hp hc hm⟩
theorem cl_core (T : Txt K mg) : Cl P w K mg base 6 "core" (spCore K) := by
  obtain ⟨f, fd, F, hm, hb⟩ := T.f_core
  exact cl_of (ok_core F T) hm F.kp hb
def spRing (K : PySem.W.Frag) : Sp := fun vs H Q _ => ∃ (n : Int) (a : Addr) (ns : List Int), vs = [.int n, .ref a] ∧ 1 ≤ n ∧ n ≤ 5 ∧ SqT K H a (ns.map V.int) ∧ Wd n ns ∧ ns.length ≤ 200 ∧ ∀ H' p r, Same H H' → Rg.RingW ns r → SqT K H' p (r.map V.int) → Q (.ref p) H'
theorem ok_ring {f : Addr} {fd : FuncData} (F : Fun K "ring" "ring" st_ring f fd) (T : Txt K mg) : FnOk P w K mg base CX0 6 f fd ["letters", "word"] (spRing K) := by
  have c_check_words : Cl P w K mg base 5 "check_words" (spChkWords K) := cl_check_words T
  have c_ring_of : Cl P w K mg base 2 "ring_of" (spRingOf K) := cl_ring_of T
  refine F.ok sc_ring (fun vs H Q E h => ?_) (fun cdv A outer s H vs Q E hr h => ?_)
  · obtain ⟨n, a, ns, rfl, _⟩ := h
    rfl
  · obtain ⟨n, a, ns, rfl, n1, n5, h, hw, hl, k⟩ := h
    refine ⟨_, (pss_cons (ps_expr (pe_f c_check_words hr (by decide) rfl (pa_cons (pv 0) (pa_cons (pe_tup (pa_cons (pv 1) pa_nil)) pa_nil)))) (pss_one (ps_ret (pe_f c_ring_of hr (by decide) rfl (pa_cons (pv 1) pa_nil))))), ?_⟩
    refine ⟨.int n, rfl, .ref a, rfl, by show 1 ≤ sizeLine; decide, fun t ht => ⟨n, t, [(a, ns)], rfl, n1, n5, tup_of upd_same, ws_one (same_tup (new_same ht) h) hw hl, fun H1 e1 => ?_⟩⟩
    have e0 := Same.trans (new_same (o := .tup [.ref a]) ht) e1
    exact ⟨.ref a, rfl, n, a, ns, rfl, same_tup e0 h, hw, by omega, fun H2 p r e2 hr2 hp => k _ _ _ (Same.trans e0 e2) hr2 hp⟩
theorem cl_ring (T : Txt K mg) : Cl P w K mg base 6 "ring" (spRing K) := by
  obtain ⟨f, fd, F, hm, hb⟩ := T.f_ring
  exact cl_of (ok_ring F T) hm F.kp hb
def spIsRing (K : PySem.W.Frag) : Sp := fun vs H Q _ => ∃ (n : Int) (a : Addr) (ns : List Int), vs = [.int n, .ref a] ∧ 1 ≤ n ∧ n ≤ 5 ∧ SqT K H a (ns.map V.int) ∧ Wd n ns ∧ ns.length ≤ 200 ∧ ∀ H' r, Same H H' → Rg.RingW ns r → Q (.bl (decide (r = ns))) H'
theorem ok_is_ring {f : Addr} {fd : FuncData} (F : Fun K "is_ring" "is_ring" st_is_ring f fd) (T : Txt K mg) : FnOk P w K mg base CX0 4 f fd ["letters", "value"] (spIsRing K) := by
  have c_check_letters : Cl P w K mg base 3 "check_letters" spChkLetters := cl_check_letters T
  have c_is_bare_row : Cl P w K mg base 3 "is_bare_row" (spIsBareRow K) := cl_is_bare_row T
  have c_ring_of : Cl P w K mg base 2 "ring_of" (spRingOf K) := cl_ring_of T
  refine F.ok sc_is_ring (fun vs H Q E h => ?_) (fun cdv A outer s H vs Q E hr h => ?_)
  · obtain ⟨n, a, ns, rfl, _⟩ := h
    rfl
  · obtain ⟨n, a, ns, rfl, n1, n5, h, hw, hl, k⟩ := h
    refine ⟨_, (pss_cons (ps_expr (pe_f c_check_letters hr (by decide) rfl (pa_cons (pv 0) pa_nil))) (pss_one (ps_ret (pe_and (pe_f c_is_bare_row hr (by decide) rfl (pa_cons (pv 0) (pa_cons (pv 1) (pa_cons (pe_glob rfl T.c_MAX_WORD.choose_spec rel_int) pa_nil)))) (pe_one (pe_cmpR (kop_eqD (K := K) hr.units) (pe_f c_ring_of hr (by decide) rfl (pa_cons (pv 1) pa_nil)) (pv 1) (nomark _))))))), ?_⟩
    refine ⟨.int n, rfl, n, rfl, n1, n5, .int n, rfl, .ref a, rfl, n, 200, .ref a, some (ns.map some), rfl, by decide, va_ints h, fun H1 e1 => ⟨_, rfl, ?_⟩⟩
    have hb : bareV n 200 (some (ns.map some)) = true := bare_wd hw (by omega)
    rw [hb]
    refine ⟨.ref a, rfl, n, a, ns, rfl, same_tup e1 h, hw, by omega, fun H2 p r e2 hr2 hp => ⟨.ref a, rfl, eq_tup hp (same_tup (Same.trans e1 e2) h) (k _ _ (Same.trans e1 e2) hr2)⟩⟩
theorem cl_is_ring (T : Txt K mg) : Cl P w K mg base 4 "is_ring" (spIsRing K) := by
  obtain ⟨f, fd, F, hm, hb⟩ := T.f_is_ring
  exact cl_of (ok_is_ring F T) hm F.kp hb
def spTurned (K : PySem.W.Frag) : Sp := fun vs H Q _ => ∃ (n : Int) (a b : Addr) (ns bs : List Int), vs = [.int n, .ref a, .ref b] ∧ 1 ≤ n ∧ n ≤ 5 ∧ SqT K H a (ns.map V.int) ∧ Wd n ns ∧ ns.length ≤ 200 ∧ SqT K H b (bs.map V.int) ∧ Wd n bs ∧ bs.length ≤ 200 ∧
  ∀ H' p, Same H H' → SqT K H' p ((Fr.red (bs ++ ns ++ Fr.opp bs)).map V.int) → Q (.ref p) H'
theorem ok_turned {f : Addr} {fd : FuncData} (F : Fun K "turned" "turned" st_turned f fd) (T : Txt K mg) : FnOk P w K mg base CX0 6 f fd ["letters", "word", "by"] (spTurned K) := by
  have c_check_words : Cl P w K mg base 5 "check_words" (spChkWords K) := cl_check_words T
  have c_turned_row : Cl P w K mg base 2 "turned_row" (spTurnedRow K) := cl_turned_row T
  refine F.ok sc_turned (fun vs H Q E h => ?_) (fun cdv A outer s H vs Q E hr h => ?_)
  · obtain ⟨n, a, b, ns, bs, rfl, _⟩ := h
    rfl
  · obtain ⟨n, a, b, ns, bs, rfl, n1, n5, h, hw, hl, g, gw, gl, k⟩ := h
    refine ⟨_, (pss_cons (ps_expr (pe_f c_check_words hr (by decide) rfl (pa_cons (pv 0) (pa_cons (pe_tup (pa_cons (pv 1) (pa_cons (pv 2) pa_nil))) pa_nil)))) (pss_one (ps_ret (pe_f c_turned_row hr (by decide) rfl (pa_cons (pv 1) (pa_cons (pv 2) pa_nil)))))), ?_⟩
    refine ⟨.int n, rfl, .ref a, rfl, .ref b, rfl, by show 2 ≤ sizeLine; decide, fun t ht => ⟨n, t, [(a, ns), (b, bs)], rfl, n1, n5, tup_of upd_same, ws_two (same_tup (new_same ht) h) hw hl (same_tup (new_same ht) g) gw gl, fun H1 e1 => ?_⟩⟩
    have e0 := Same.trans (new_same (o := .tup [.ref a, .ref b]) ht) e1
    exact ⟨.ref a, rfl, .ref b, rfl, a, b, ns, bs, rfl, same_tup e0 h, same_tup e0 g, hw.nf, gw.nf, by omega, fun H2 p e2 hp => k _ _ (Same.trans e0 e2) hp⟩
theorem cl_turned (T : Txt K mg) : Cl P w K mg base 6 "turned" (spTurned K) := by
  obtain ⟨f, fd, F, hm, hb⟩ := T.f_turned
  exact cl_of (ok_turned F T) hm F.kp hb
def spAlike (K : PySem.W.Frag) : Sp := fun vs H Q _ => ∃ (n : Int) (a b : Addr) (ns bs : List Int), vs = [.int n, .ref a, .ref b] ∧ 1 ≤ n ∧ n ≤ 5 ∧ SqT K H a (ns.map V.int) ∧ Wd n ns ∧ ns.length ≤ 200 ∧ SqT K H b (bs.map V.int) ∧ Wd n bs ∧ bs.length ≤ 200 ∧
  ∀ H' r q, Same H H' → Rg.RingW ns r → Rg.RingW bs q → Q (.bl (decide (r = q))) H'
theorem ok_are_alike {f : Addr} {fd : FuncData} (F : Fun K "are_alike" "are_alike" st_are_alike f fd) (T : Txt K mg) : FnOk P w K mg base CX0 6 f fd ["letters", "one", "other"] (spAlike K) := by
  have c_check_words : Cl P w K mg base 5 "check_words" (spChkWords K) := cl_check_words T
  have c_ring_of : Cl P w K mg base 2 "ring_of" (spRingOf K) := cl_ring_of T
  refine F.ok sc_are_alike (fun vs H Q E h => ?_) (fun cdv A outer s H vs Q E hr h => ?_)
  · obtain ⟨n, a, b, ns, bs, rfl, _⟩ := h
    rfl
  · obtain ⟨n, a, b, ns, bs, rfl, n1, n5, h, hw, hl, g, gw, gl, k⟩ := h
    refine ⟨_, (pss_cons (ps_expr (pe_f c_check_words hr (by decide) rfl (pa_cons (pv 0) (pa_cons (pe_tup (pa_cons (pv 1) (pa_cons (pv 2) pa_nil))) pa_nil)))) (pss_one (ps_ret (pe_cmpR (kop_eqD (K := K) hr.units) (pe_f c_ring_of hr (by decide) rfl (pa_cons (pv 1) pa_nil)) (pe_f c_ring_of hr (by decide) rfl (pa_cons (pv 2) pa_nil)) (nomark _))))), ?_⟩
    refine ⟨.int n, rfl, .ref a, rfl, .ref b, rfl, by show 2 ≤ sizeLine; decide, fun t ht => ⟨n, t, [(a, ns), (b, bs)], rfl, n1, n5, tup_of upd_same, ws_two (same_tup (new_same ht) h) hw hl (same_tup (new_same ht) g) gw gl, fun H1 e1 => ?_⟩⟩
    have e0 := Same.trans (new_same (o := .tup [.ref a, .ref b]) ht) e1
    refine ⟨.ref a, rfl, n, a, ns, rfl, same_tup e0 h, hw, by omega, fun H2 p r e2 hr2 hp => ⟨.ref b, rfl, n, b, bs, rfl, same_tup (Same.trans e0 e2) g, gw, by omega, fun H3 p2 q e3 hq hp2 => ?_⟩⟩
    exact eq_tup (same_tup e3 hp) hp2 (k _ _ _ (Same.trans (Same.trans e0 e2) e3) hr2 hq)
theorem cl_are_alike (T : Txt K mg) : Cl P w K mg base 6 "are_alike" (spAlike K) := by
  obtain ⟨f, fd, F, hm, hb⟩ := T.f_are_alike
  exact cl_of (ok_are_alike F T) hm F.kp hb
def spTurning (K : PySem.W.Frag) : Sp := fun vs H Q _ => ∃ (n : Int) (a b : Addr) (ns bs : List Int), vs = [.ref a, .ref b] ∧ SqT K H a (ns.map V.int) ∧ Wd n ns ∧ ns.length ≤ 200 ∧ SqT K H b (bs.map V.int) ∧ Wd n bs ∧ bs.length ≤ 200 ∧
  (∀ H', Same H H' → (∀ r q, Rg.RingW ns r → Rg.RingW bs q → r ≠ q) → Q .non H') ∧
  (∀ H' p ps, Same H H' → SqT K H' p (ps.map V.int) → Wd n ps → ps.length ≤ ns.length + bs.length → Fr.red (ps ++ ns ++ Fr.opp ps) = bs → (∃ r, Rg.RingW ns r ∧ Rg.RingW bs r) → Q (.ref p) H')
theorem ok_turning {f : Addr} {fd : FuncData} (F : Fun K "turning" "turning" st_turning f fd) (T : Txt K mg) : FnOk P w K mg base CX0 3 f fd ["one", "other"] (spTurning K) := by
  have c_ring_of : Cl P w K mg base 2 "ring_of" (spRingOf K) := cl_ring_of T
  have c_split_core : Cl P w K mg base 1 "split_core" (spSplit K) := cl_split_core T
  have c_least_start : Cl P w K mg base 1 "least_start" (spLst K) := cl_least_start T
  have c_product_of : Cl P w K mg base 2 "product_of" (spJoined K) := cl_product_of T
  have c_opposite : Cl P w K mg base 1 "opposite" (spOpp K) := cl_opposite T
  refine F.ok sc_turning (fun vs H Q E h => ?_) (fun cdv A outer s H vs Q E hr h => ?_)
  · obtain ⟨n, a, b, ns, bs, rfl, _⟩ := h
    rfl
  · obtain ⟨n, a, b, ns, bs, rfl, h, hw, hl, g, gw, gl, k1, k2⟩ := h
    refine ⟨_, (pss_cons (ps_if (pt_cmpR (kop_neD (K := K) hr.units) (pe_f c_ring_of hr (by decide) rfl (pa_cons (pv 0) pa_nil)) (pe_f c_ring_of hr (by decide) rfl (pa_cons (pv 1) pa_nil)) (nomark _)) (pss_one (ps_ret pe_non)) pss_nil) (pss_cons (ps_if (pt_cmpR (kop_eqD (K := K) hr.units) (pv 0) (pe_tup pa_nil) (nomark _)) (pss_one (ps_ret (pe_tup pa_nil))) pss_nil) (pss_cons (ps_asg (pe_f c_split_core hr (by decide) rfl (pa_cons (pv 0) pa_nil)) (kpg_tup (K := K) (n := 2) rfl (pgs_cons (pg_name (i := 2) sc_turning.nd rfl (Or.inl rfl)) (pgs_cons (pg_name (i := 3) sc_turning.nd rfl (Or.inl rfl)) pgs_nil)))) (pss_cons (ps_asg (pe_f c_split_core hr (by decide) rfl (pa_cons (pv 1) pa_nil)) (kpg_tup (K := K) (n := 2) rfl (pgs_cons (pg_name (i := 4) sc_turning.nd rfl (Or.inl rfl)) (pgs_cons (pg_name (i := 5) sc_turning.nd rfl (Or.inl rfl)) pgs_nil)))) (pss_cons (ps_set (i := 6) sc_turning.nd rfl (Or.inl rfl) (pe_op op_mod (pe_op op_sub (pe_f c_least_start hr (by decide) rfl (pa_cons (pv 3) pa_nil)) (pe_f c_least_start hr (by decide) rfl (pa_cons (pv 5) pa_nil))) (pe_callB (kcall_len (K := K)) (by rfl) T.n_len bo_len (pa_cons (pv 3) pa_nil)))) (pss_one (ps_ret (pe_f c_product_of hr (by decide) rfl (pa_cons (pe_tup (pa_cons (pv 4) (pa_cons (pe_f c_opposite hr (by decide) rfl (pa_cons (pe_slice (ksl_tupA (K := K)) (pv 3) po_none (po_some (pv 6))) pa_nil)) (pa_cons (pe_f c_opposite hr (by decide) rfl (pa_cons (pv 2) pa_nil)) pa_nil)))) pa_nil))))))))), ?_⟩
    have e0 := Same.refl H
    refine ⟨.ref a, rfl, n, a, ns, rfl, same_tup e0 h, hw, by omega, fun H2 p r e2 hr2 hp => ⟨.ref b, rfl, n, b, bs, rfl, same_tup (Same.trans e0 e2) g, gw, by omega, fun H3 p2 q e3 hq hp2 => ?_⟩⟩
    have e03 := Same.trans (Same.trans e0 e2) e3
    refine ne_tup (same_tup e3 hp) hp2 ⟨_, rfl, ?_⟩
    refine ite2 (fun i1 => ?_) fun i1 => ?_
    · have i1 : ¬ r = q := by simpa using i1
      exact k1 _ e03 fun r' q' z1 z2 z3 => i1 ((Rg.ringw_uniq hr2 z1).trans (z3.trans (Rg.ringw_uniq z2 hq)))
    · have i1 : r = q := by simpa using i1
      subst i1
      refine ⟨.ref a, rfl, Nat.zero_le _, fun z hz => eq_tup (ms := []) (same_tup (Same.trans e03 (new_same hz)) h) (tup_of upd_same) ⟨_, rfl, ?_⟩⟩
      have e04 := Same.trans e03 (new_same (o := .tup []) hz)
      generalize upd H3 z (.tup []) = H4 at e04
      refine ite2 (fun i2 => ?_) fun i2 => ?_
      · have i2 : ns = [] := of_decide_eq_true i2
        subst i2
        have hb : bs = [] := by
          obtain ⟨c, m, s1, s2⟩ := hr2
          obtain ⟨rfl, rfl⟩ := s1.2.1 rfl
          obtain ⟨c2, m2, t1, t2⟩ := hq
          exact Rg.spl_empty t1 (List.eq_nil_of_length_eq_zero (by rw [← t2.1, s2.1]; rfl))
        refine ⟨Nat.zero_le _, fun y hy => k2 _ y [] (Same.trans e04 (new_same hy)) (tup_of upd_same) ⟨lt_nil, True.intro⟩ (Nat.zero_le _) (by rw [hb]; rfl) ⟨r, hr2, hq⟩⟩
      · have i2 : ns ≠ [] := fun z => i2 (decide_eq_true z)
        refine ⟨.ref a, rfl, n, a, ns, rfl, same_tup e04 h, hw, by omega, fun H5 p pc1 pm1 c1 m1 e5 s1 hp hc1 hm1 => ⟨p, _, rfl, hp, rfl, _, _, rfl, _, _, rfl, rfl, ?_⟩⟩
        refine ⟨.ref b, rfl, n, b, bs, rfl, same_tup (Same.trans e04 e5) g, gw, by omega, fun H6 p pc2 pm2 c2 m2 e6 s2 hp hc2 hm2 => ⟨p, _, rfl, hp, rfl, _, _, rfl, _, _, rfl, rfl, ?_⟩⟩
        have e06 := Same.trans (Same.trans e04 e5) e6
        have hm1 := same_tup e6 hm1
        have hc1 := same_tup e6 hc1
        have l1 := spl_len s1
        have l2 := spl_len s2
        have m1n : m1 ≠ [] := (s1.2.2 i2).1
        have ring1 : Rg.Ring m1 r := by
          obtain ⟨c, m, z1, z2⟩ := hr2
          obtain ⟨_, rfl⟩ := Rg.spl_uniq z1 (spl_rg s1)
          exact z2
        have ring2 : Rg.Ring m2 r := by
          obtain ⟨c, m, z1, z2⟩ := hq
          obtain ⟨_, rfl⟩ := Rg.spl_uniq z1 (spl_rg s2)
          exact z2
        have lm : m2.length = m1.length := ring2.1.symm.trans ring1.1
        have m1p : 0 < m1.length := List.length_pos_iff.mpr m1n
        refine ⟨.ref pm1, rfl, pm1, m1, rfl, hm1, fun u hu hu1 lu => ⟨.ref pm2, rfl, pm2, m2, rfl, hm2, fun v hv hv1 lv => ⟨_, _, rfl, rfl, .ref pm1, rfl, pm1, _, rfl, .inr hm1, _, _, rfl, rfl, by rw [List.length_map]; show (0 : Int) < (m1.length : Int); omega, ?_⟩⟩⟩
        have hu1 := hu1 m1n
        have hv1 := hv1 (fun z => by rw [z] at lm; simp at lm; omega)
        obtain ⟨k, hk⟩ : ∃ k : Nat, (k : Int) = ((u : Int) - (v : Int)) % (m1.length : Int) := ⟨(((u : Int) - (v : Int)) % (m1.length : Int)).toNat, Int.toNat_of_nonneg (Int.emod_nonneg _ (by omega))⟩
        have kl : k < m1.length := by
          have := Int.emod_lt_of_pos ((u : Int) - v) (show (0 : Int) < m1.length by omega)
          omega
        have rr : Rg.rot m1 k = m2 := Rg.rot_rot m1n hu1 hv1 lm ((Rg.ring_uniq (Rg.ring_rot hu lu) ring1).trans (Rg.ring_uniq ring2 (Rg.ring_rot hv lv))) k hk
        have hk' : (fun i j : Int => V.int (i % j)) ((u : Int) - (v : Int)) (((m1.map V.int).length : Nat) : Int) = .int (k : Int) := by
          rw [List.length_map]
          exact congrArg V.int hk.symm
        rw [hk']
        refine ⟨.ref pc2, rfl, .ref pm1, rfl, nopart ⟨.int (k : Int), rfl, (k : Int), rfl, sl_ints hm1 fun H7 p7 e7 h7 => ?_⟩⟩
        rw [cutI_to] at h7
        refine ⟨p7, m1.take k, rfl, h7, by rw [List.length_take]; omega, fun H8 p8 e8 h8 => ⟨.ref pc1, rfl, pc1, c1, rfl, same_tup (Same.trans e7 e8) hc1, by omega, fun H9 p9 e9 h9 => ⟨by show 3 ≤ sizeLine; decide, fun t2 ht2 => ?_⟩⟩⟩
        have e79 := Same.trans (Same.trans e7 e8) e9
        have en := new_same (o := .tup [.ref pc2, .ref p8, .ref p9]) ht2
        refine ⟨t2, [(pc2, c2), (p8, Fr.opp (m1.take k)), (p9, Fr.opp c1)], rfl, tup_of upd_same, tis3 (same_tup (Same.trans e79 en) hc2) (same_tup (Same.trans e9 en) h8) (same_tup en h9), by rw [fl3]; simp only [List.length_append, Fr.opp_len, List.length_take]; omega, fun H10 pz e10 hz => ?_⟩
        rw [fl3] at hz
        have la : Lt n (c2 ++ Fr.opp (m1.take k) ++ Fr.opp c1) := by
          refine lt_app (lt_app (fun i hi => gw.lt i (by rw [s2.1]; simp [hi])) (lt_opp fun i hi => hw.lt i ?_)) (lt_opp fun i hi => hw.lt i (by rw [s1.1]; simp [hi]))
          rw [s1.1]
          simp [List.mem_of_mem_take hi]
        refine k2 _ pz _ (Same.trans (Same.trans (Same.trans e06 e79) en) e10) hz (wd_red la) ?_ (Rg.between_ok (spl_rg s1) (spl_rg s2) gw.nf rr) ⟨r, hr2, hq⟩
        refine Nat.le_trans (len_red _) ?_
        simp only [List.length_append, Fr.opp_len, List.length_take]
        omega
theorem cl_turning (T : Txt K mg) : Cl P w K mg base 3 "turning" (spTurning K) := by
  obtain ⟨f, fd, F, hm, hb⟩ := T.f_turning
  exact cl_of (ok_turning F T) hm F.kp hb
def spBetween (K : PySem.W.Frag) : Sp := fun vs H Q _ => ∃ (n : Int) (a b : Addr) (ns bs : List Int), vs = [.int n, .ref a, .ref b] ∧ 1 ≤ n ∧ n ≤ 5 ∧ SqT K H a (ns.map V.int) ∧ Wd n ns ∧ ns.length ≤ 200 ∧ SqT K H b (bs.map V.int) ∧ Wd n bs ∧ bs.length ≤ 200 ∧
  (∀ H', Same H H' → (∀ r q, Rg.RingW ns r → Rg.RingW bs q → r ≠ q) → Q .non H') ∧
  (∀ H' p ps, Same H H' → SqT K H' p (ps.map V.int) → Wd n ps → ps.length ≤ ns.length + bs.length → Fr.red (ps ++ ns ++ Fr.opp ps) = bs → (∃ r, Rg.RingW ns r ∧ Rg.RingW bs r) → Q (.ref p) H')
theorem ok_between {f : Addr} {fd : FuncData} (F : Fun K "between" "between" st_between f fd) (T : Txt K mg) : FnOk P w K mg base CX0 6 f fd ["letters", "one", "other"] (spBetween K) := by
  have c_check_words : Cl P w K mg base 5 "check_words" (spChkWords K) := cl_check_words T
  have c_turning : Cl P w K mg base 3 "turning" (spTurning K) := cl_turning T
  refine F.ok sc_between (fun vs H Q E h => ?_) (fun cdv A outer s H vs Q E hr h => ?_)
  · obtain ⟨n, a, b, ns, bs, rfl, _⟩ := h
    rfl
  · obtain ⟨n, a, b, ns, bs, rfl, n1, n5, h, hw, hl, g, gw, gl, k1, k2⟩ := h
    refine ⟨_, (pss_cons (ps_expr (pe_f c_check_words hr (by decide) rfl (pa_cons (pv 0) (pa_cons (pe_tup (pa_cons (pv 1) (pa_cons (pv 2) pa_nil))) pa_nil)))) (pss_one (ps_ret (pe_f c_turning hr (by decide) rfl (pa_cons (pv 1) (pa_cons (pv 2) pa_nil)))))), ?_⟩
    refine ⟨.int n, rfl, .ref a, rfl, .ref b, rfl, by show 2 ≤ sizeLine; decide, fun t ht => ⟨n, t, [(a, ns), (b, bs)], rfl, n1, n5, tup_of upd_same, ws_two (same_tup (new_same ht) h) hw hl (same_tup (new_same ht) g) gw gl, fun H1 e1 => ?_⟩⟩
    have e0 := Same.trans (new_same (o := .tup [.ref a, .ref b]) ht) e1
    exact ⟨.ref a, rfl, .ref b, rfl, n, a, b, ns, bs, rfl, same_tup e0 h, hw, hl, same_tup e0 g, gw, gl, fun H2 e2 => k1 H2 (Same.trans e0 e2), fun H2 p ps e2 => k2 H2 p ps (Same.trans e0 e2)⟩
theorem cl_between (T : Txt K mg) : Cl P w K mg base 6 "between" (spBetween K) := by
  obtain ⟨f, fd, F, hm, hb⟩ := T.f_between
  exact cl_of (ok_between F T) hm F.kp hb
def dueV (n : Int) (one other : List Int) : Option (List (Option Int)) → Bool
  | some os => bareB n 400 os && decide (Fr.red (intsOf os ++ one ++ Fr.opp (intsOf os)) = other)
  | none => false
theorem bare_va {H : Hp} {n m : Int} {v : V} {o : Option (List (Option Int))} (va : Va K H v o) (hb : bareV n m o = true) : ∃ (a : Addr) (ns : List Int), v = .ref a ∧ SqT K H a (ns.map V.int) ∧ o = some (ns.map some) ∧ Wd n ns ∧ (ns.length : Int) ≤ m := by
  cases va with
  | oth h kt => cases hb
  | @tup a xs os h hl he =>
    have hb : (rowB n m os && nfB (intsOf os)) = true := hb
    rw [Bool.and_eq_true] at hb
    have hb2 : (!decide (m < (os.length : Int)) && os.all (okE n)) = true := hb.1
    rw [Bool.and_eq_true, Bool.not_eq_true'] at hb2
    have a1 := of_decide_eq_false hb2.1
    have e0 := all_some hb2.2
    have e := ints_of hl he e0
    have el : (intsOf os).length = os.length := by
      have := congrArg List.length e
      rw [List.length_map] at this
      omega
    rw [e] at h
    have hall := hb2.2
    rw [e0] at hall
    exact ⟨a, intsOf os, rfl, h, congrArg some e0, ⟨lt_okE hall, nfB_iff.mp hb.2⟩, by omega⟩
def spIsBetween (K : PySem.W.Frag) : Sp := fun vs H Q _ => ∃ (n : Int) (a b : Addr) (ns bs : List Int) (v : V) (o : Option (List (Option Int))), vs = [.int n, .ref a, .ref b, v] ∧ 1 ≤ n ∧ n ≤ 5 ∧ SqT K H a (ns.map V.int) ∧ Wd n ns ∧ ns.length ≤ 200 ∧ SqT K H b (bs.map V.int) ∧ Wd n bs ∧ bs.length ≤ 200 ∧
  Va K H v o ∧ ∀ H', Same H H' → Q (.bl (dueV n ns bs o)) H'
theorem ok_is_between {f : Addr} {fd : FuncData} (F : Fun K "is_between" "is_between" st_is_between f fd) (T : Txt K mg) : FnOk P w K mg base CX0 6 f fd ["letters", "one", "other", "value"] (spIsBetween K) := by
  have c_check_words : Cl P w K mg base 5 "check_words" (spChkWords K) := cl_check_words T
  have c_is_bare_row : Cl P w K mg base 3 "is_bare_row" (spIsBareRow K) := cl_is_bare_row T
  have c_turned_row : Cl P w K mg base 2 "turned_row" (spTurnedRow K) := cl_turned_row T
  refine F.ok sc_is_between (fun vs H Q E h => ?_) (fun cdv A outer s H vs Q E hr h => ?_)
  · obtain ⟨n, a, b, ns, bs, v, o, rfl, _⟩ := h
    rfl
  · obtain ⟨n, a, b, ns, bs, v, o, rfl, n1, n5, h, hw, hl, g, gw, gl, va, k⟩ := h
    refine ⟨_, (pss_cons (ps_expr (pe_f c_check_words hr (by decide) rfl (pa_cons (pv 0) (pa_cons (pe_tup (pa_cons (pv 1) (pa_cons (pv 2) pa_nil))) pa_nil)))) (pss_cons (ps_if (pt_not (pt_val (pe_f c_is_bare_row hr (by decide) rfl (pa_cons (pv 0) (pa_cons (pv 3) (pa_cons (pe_glob rfl T.c_MAX_BETWEEN.choose_spec rel_int) pa_nil)))))) (pss_one (ps_ret pe_bl)) pss_nil) (pss_one (ps_ret (pe_cmpR (kop_eqD (K := K) hr.units) (pe_f c_turned_row hr (by decide) rfl (pa_cons (pv 1) (pa_cons (pv 3) pa_nil))) (pv 2) (nomark _)))))), ?_⟩
    refine ⟨.int n, rfl, .ref a, rfl, .ref b, rfl, by show 2 ≤ sizeLine; decide, fun t ht => ⟨n, t, [(a, ns), (b, bs)], rfl, n1, n5, tup_of upd_same, ws_two (same_tup (new_same ht) h) hw hl (same_tup (new_same ht) g) gw gl, fun H1 e1 => ?_⟩⟩
    have e0 := Same.trans (new_same (o := .tup [.ref a, .ref b]) ht) e1
    refine ⟨.int n, rfl, v, rfl, n, 400, v, o, rfl, by decide, va_same e0 va, fun H2 e2 => ⟨_, rfl, ?_⟩⟩
    have e02 := Same.trans e0 e2
    show if (!bareV n 400 o) = true then _ else _
    refine ite2 (fun i1 => ?_) fun i1 => ?_
    · have := k _ e02
      have e : dueV n ns bs o = false := by
        cases o with
        | none => rfl
        | some os =>
          have i1 : (!bareB n 400 os) = true := i1
          rw [Bool.not_eq_true'] at i1
          show (bareB n 400 os && _) = false
          rw [i1, Bool.false_and]
      rw [e] at this
      exact this
    · have i1 : bareV n 400 o = true := by
        cases z : bareV n 400 o with
        | true => rfl
        | false => rw [z] at i1; exact absurd rfl i1
      obtain ⟨c, xs, rfl, hx, eo, xw, xl⟩ := bare_va (va_same e02 va) i1
      have := k
      have ed : dueV n ns bs o = decide (Fr.red (xs ++ ns ++ Fr.opp xs) = bs) := by
        rw [eo] at i1 ⊢
        have i1 : bareB n 400 (xs.map some) = true := i1
        show (bareB n 400 (xs.map some) && decide (Fr.red (intsOf (xs.map some) ++ ns ++ Fr.opp (intsOf (xs.map some))) = bs)) = _
        rw [i1, Bool.true_and, intsOf_some]
      rw [ed] at k
      exact ⟨.ref a, rfl, .ref c, rfl, a, c, ns, xs, rfl, same_tup e02 h, hx, hw.nf, xw.nf, by omega, fun H3 p e3 hp => ⟨.ref b, rfl, eq_tup hp (same_tup (Same.trans e02 e3) g) (k _ (Same.trans e02 e3))⟩⟩
theorem cl_is_between (T : Txt K mg) : Cl P w K mg base 6 "is_between" (spIsBetween K) := by
  obtain ⟨f, fd, F, hm, hb⟩ := T.f_is_between
  exact cl_of (ok_is_between F T) hm F.kp hb
def spLCore (K : PySem.W.Frag) : Sp := fun vs H Q _ => ∃ (n : Int) (a : Addr) (ns : List Int), vs = [.ref a] ∧ SqT K H a (ns.map V.int) ∧ Wd n ns ∧ ns.length ≤ 1000 ∧ ∀ H' p c m, Same H H' → Rg.Spl ns c m → SqT K H' p (m.map V.int) → Q (.ref p) H'
def Stp (m : List Int) : Prop := ∀ t q, m = (-q) :: (t ++ [q]) → False
theorem cutI_in (p q : Int) (t : List Int) : cutI (p :: (t ++ [q])) (some 1) (some (-1)) = t := by
  unfold cutI
  have e1 : HT.sIx (p :: (t ++ [q])).length 0 (some 1) = 1 := by
    rw [show (some (1 : Int)) = some ((1 : Nat) : Int) from rfl, HT.sIx_nat]
    simp
  have e2 : HT.sIx (p :: (t ++ [q])).length (p :: (t ++ [q])).length (some (-1)) = t.length + 1 := by
    show (if (-1 : Int) < 0 then ((-1 : Int) + ((p :: (t ++ [q])).length : Int)).toNat else min (-1 : Int).toNat (p :: (t ++ [q])).length) = _
    rw [if_pos (by decide)]
    simp only [List.length_cons, List.length_append, List.length_nil]
    omega
  rw [e1, e2]
  show ((t ++ [q]).take (t.length + 1 - 1)) = t
  rw [Nat.add_sub_cancel, List.take_left]
theorem spl_stp {n : Int} {ns c m : List Int} (hw : Wd n ns) (s : ns = c ++ m ++ Fr.opp c) (h : Stp m) : Rg.Spl ns c m := by
  have nf : Fr.Nf (c ++ m ++ Fr.opp c) := s ▸ hw.nf
  refine ⟨s, fun q => ?_, fun q => ⟨fun e => ?_, fun x y hx hy e => ?_⟩⟩
  · rw [q] at s
    have := congrArg List.length s
    simp only [List.length_append, List.length_nil] at this
    exact ⟨List.eq_nil_of_length_eq_zero (by omega), List.eq_nil_of_length_eq_zero (by omega)⟩
  · subst e
    by_cases hc : c = []
    · subst hc; exact q s
    · obtain ⟨t, z, rfl⟩ := Rg.snoc_of hc
      rw [List.append_nil] at nf
      exact Rg.nf_jn nf (Rg.last_snoc t z) (by rw [Fr.opp_app]; rfl) (by omega : z = - -z)
  · cases m with
    | nil => cases hy
    | cons p u =>
      cases hy
      by_cases hu : u = []
      · subst hu
        have hx : y = x := Option.some.inj hx
        have := (hw.lt y (by rw [s]; simp)).1
        omega
      · obtain ⟨t, z, rfl⟩ := Rg.snoc_of hu
        rw [← List.cons_append, Rg.last_snoc] at hx
        cases hx
        exact h t x (by rw [show y = -x by omega])
theorem ok__law_core {f : Addr} {fd : FuncData} (F : Fun K "_law_core" "_law_core" st__law_core f fd) (T : Txt K mg) : FnOk P w K mg base CX0 1 f fd ["word"] (spLCore K) := by
  refine F.ok sc__law_core (fun vs H Q E h => ?_) (fun cdv A outer s H vs Q E hr h => ?_)
  · obtain ⟨n, a, ns, rfl, _⟩ := h
    rfl
  · obtain ⟨n, a, ns, rfl, h, hw, hz, k⟩ := h
    refine ⟨_, (pss_cons (ps_set (i := 1) sc__law_core.nd rfl (Or.inl rfl) (pv 0)) (pss_cons (ps_for PassesOwn.never rfl (pi_range1 rfl T.n_range (pa_cons (pe_callB (kcall_len (K := K)) (by rfl) T.n_len bo_len (pa_cons (pv 0) pa_nil)) pa_nil)) (pg_name (i := 2) sc__law_core.nd rfl (Or.inl rfl)) (pss_one (ps_if (PW.pt (pw_and (pt_cmpR op_gt (pe_callB (kcall_len (K := K)) (by rfl) T.n_len bo_len (pa_cons (pv 1) pa_nil)) pe_int (nomark _)) (pw_and1 (pt_cmpR op_eq (pe_ix (kix_tup (K := K)) (pv 1) pe_int (fun _ _ => rfl)) (pe_op op_sub pe_int (pe_ix (kix_tup (K := K)) (pv 1) (pe_un un_neg pe_int) (fun _ _ => rfl))) (nomark _))))) (pss_one (ps_set (i := 1) sc__law_core.nd rfl (Or.inl rfl) (pe_slice (ksl_tupA (K := K)) (pv 1) (po_some pe_int) (po_some (pe_un un_neg pe_int))))) pss_nil))) (pss_one (ps_ret (pv 1))))), ?_⟩
    refine ⟨.ref a, rfl, .ref a, rfl, a, _, rfl, .inr h, ?_⟩
    rw [List.length_map]
    refine ⟨_, rfl, by omega, by omega, for_range (lo := 0) (n := ns.length) (fun i σ H' => Same H H' ∧ ∃ (g : Addr) (c m : List Int) (x : Option V), SqT K H' g (m.map V.int) ∧ ns = c ++ m ++ Fr.opp c ∧ (c.length = i ∨ Stp m) ∧ σ = [some (.ref a), some (.ref g), x]) ⟨Same.refl _, a, [], ns, none, h, by simp [Fr.opp], .inl rfl, rfl⟩ (fun i σ H' hi p => ?_) fun σ H' p => ?_⟩
    · obtain ⟨e1, g, c, m, x, hg, hs, hd, rfl⟩ := p
      refine ⟨.ref g, rfl, g, _, rfl, .inr hg, _, _, rfl, rfl, _, rfl, ite2 (fun h1 => ?_) fun h1 => ?_⟩
      · have h1 : 1 < m.length := by have := of_decide_eq_true h1; rw [List.length_map] at this; omega
        obtain ⟨p, t, q, rfl⟩ : ∃ p t q, m = p :: (t ++ [q]) := by
          cases m with
          | nil => simp at h1
          | cons p u =>
            obtain ⟨t, q, rfl⟩ := Rg.snoc_of (m := u) (fun e => by subst e; simp at h1)
            exact ⟨p, t, q, rfl⟩
        refine ⟨.ref g, rfl, g, _, 0, .int p, rfl, rfl, hg, atI_nat (j := 0) rfl, .ref g, rfl, 1, rfl, g, _, _, .int q, rfl, rfl, hg, by rw [← List.cons_append, List.map_append]; exact atI_last _ _, _, _, rfl, rfl, rfl, _, rfl, ?_⟩
        rw [dec_int]
        refine ite2 (fun h2 => ?_) fun h2 => ?_
        · have h2 : p = 0 - q := of_decide_eq_true h2
          have hp : p = -q := by omega
          subst hp
          have hc : c.length = i := hd.elim id fun z => (z t q rfl).elim
          refine ⟨.ref g, rfl, 1, rfl, 1, rfl, _, rfl, sl_ints hg fun H2 p2 e2 hp2 => ?_⟩
          refine ⟨Same.trans e1 e2, p2, c ++ [-q], t, some (.int (0 + i)), ?_, ?_, .inl (by rw [List.length_append, hc]; rfl), rfl⟩
          · exact (cutI_in (-q) q t) ▸ hp2
          · rw [hs, Fr.opp_app]
            show c ++ -q :: (t ++ [q]) ++ Fr.opp c = c ++ [-q] ++ t ++ ([- -q] ++ Fr.opp c)
            rw [Int.neg_neg]
            simp [List.append_assoc]
        · have h2 : ¬ p = -q := fun z => h2 (decide_eq_true (by omega))
          refine ⟨e1, g, c, p :: (t ++ [q]), some (.int (0 + i)), hg, hs, .inr fun t' q' z => ?_, rfl⟩
          injection z with z1 z2
          have := congrArg List.getLast? z2
          rw [Rg.last_snoc, Rg.last_snoc] at this
          injection this with this
          exact h2 (by rw [z1, this])
      · have h1 : ¬ 1 < m.length := fun z => h1 (decide_eq_true (by rw [List.length_map]; omega))
        refine ⟨e1, g, c, m, some (.int (0 + i)), hg, hs, .inr fun t q z => ?_, rfl⟩
        rw [z] at h1
        simp at h1
    · obtain ⟨e1, g, c, m, x, hg, hs, hd, rfl⟩ := p
      refine ⟨.ref g, rfl, k _ _ c m e1 ?_ hg⟩
      refine spl_stp hw hs ?_
      rcases hd with q | q
      · have := congrArg List.length hs
        rw [List.length_append, List.length_append, Fr.opp_len] at this
        have e : m = [] := List.eq_nil_of_length_eq_zero (by omega)
        subst e
        intro t q z
        cases z
      · exact q
theorem cl__law_core (T : Txt K mg) : Cl P w K mg base 1 "_law_core" (spLCore K) := by
  obtain ⟨f, fd, F, hm, hb⟩ := T.f__law_core
  exact cl_of (ok__law_core F T) hm F.kp hb
theorem tup_mut {H : Hp} {D a : Addr} {ys xs : List V} {o : HO} (d : H D = some (.lst ys)) (h : SqT K H a xs) : SqT K (upd H D o) a xs := by
  have ne : ∀ {u : HO}, H a = some u → (∀ ys, u ≠ .lst ys) → upd H D o a = some u := fun h hn => by
    rw [upd_ne (fun q => by rw [q, d] at h; cases h; exact hn _ rfl)]
    exact h
  rcases h with (h | ⟨u, h⟩) | h
  · exact .inl (.inl (ne h fun _ q => nomatch q))
  · exact .inl (.inr ⟨u, ne h fun _ q => nomatch q⟩)
  · exact .inr h
theorem dpall_of {H : Hp} : ∀ {ps : List Addr} {ts : List (List Int)}, ps.length = ts.length → (∀ (j : Nat) (p : Addr) (t : List Int), ps[j]? = some p → ts[j]? = some t → SqT K H p (t.map V.int)) → DpAll K H (ps.map V.ref) (ts.map tupD)
  | [], [], _, _ => .nil
  | [], _ :: _, h, _ => nomatch h
  | _ :: _, [], h, _ => nomatch h
  | p :: ps, t :: ts, h, q => .cons (dp_tup (q 0 p t rfl rfl)) (dpall_of (by simpa using h) fun j p t hp ht => q (j + 1) p t hp ht)
def spLRing (K : PySem.W.Frag) : Sp := fun vs H Q _ => ∃ (n : Int) (a : Addr) (ns : List Int), vs = [.ref a] ∧ SqT K H a (ns.map V.int) ∧ Wd n ns ∧ ns.length ≤ 1000 ∧ ∀ H' p r, Same H H' → Rg.RingW ns r → SqT K H' p (r.map V.int) → Q (.ref p) H'
theorem ok__law_ring {f : Addr} {fd : FuncData} (F : Fun K "_law_ring" "_law_ring" st__law_ring f fd) (T : Txt K mg) : FnOk P w K mg base CX0 2 f fd ["word"] (spLRing K) := by
  have c__law_core : Cl P w K mg base 1 "_law_core" (spLCore K) := cl__law_core T
  refine F.ok sc__law_ring (fun vs H Q E h => ?_) (fun cdv A outer s H vs Q E hr h => ?_)
  · obtain ⟨n, a, ns, rfl, _⟩ := h
    rfl
  · obtain ⟨n, a, ns, rfl, h, hw, hz, k⟩ := h
    refine ⟨_, (pss_cons (ps_set (i := 1) sc__law_ring.nd rfl (Or.inr rfl) (pe_f c__law_core hr (by decide) rfl (pa_cons (pv 0) pa_nil))) (pss_one (ps_ret (pe_callB (kcr_minT (K := K) rfl hr.units) (by rfl) T.n_min bo_min (pa_cons (pe_lc (own := [("at", 2)]) rfl sc__law_ring.nd (pi_range1 rfl T.n_range (pa_cons (pe_callB (call_max2 rfl) (by rfl) T.n_max bo_max (pa_cons pe_int (pa_cons (pe_callB (kcall_len (K := K)) (by rfl) T.n_len bo_len (pa_cons (pv 1) pa_nil)) pa_nil))) pa_nil)) (blkOk_by (N := nm__law_ring) (sc := defScope st__law_ring) (by decide +kernel)) (fun _ _ _ _ _ => (pg_name (i := 2) sc__law_ring.nd rfl (by first | exact Or.inl rfl | exact Or.inr rfl))) (fun _ _ _ _ _ => pts_nil) (fun _ _ _ _ _ => (pe_op (kop_catA (K := K)) (pe_slice (ksl_tupA (K := K)) (pv 1) (po_some (pv 2)) po_none) (pe_slice (ksl_tupA (K := K)) (pv 1) po_none (po_some (pv 2)))))) pa_nil))))), ?_⟩
    refine ⟨.ref a, rfl, n, a, ns, rfl, h, hw, hz, fun H1 g c m e1 hs hg => ?_⟩
    refine ⟨.ref g, rfl, g, _, rfl, .inr hg, _, _, rfl, ?_⟩
    have em : (if ((m.length : Nat) : Int) > 1 then ((m.length : Nat) : Int) else 1) = ((max 1 m.length : Nat) : Int) := by split <;> omega
    have hl := congrArg List.length hs.1
    rw [List.length_append, List.length_append, Fr.opp_len] at hl
    refine ⟨((max 1 m.length : Nat) : Int), by rw [List.length_map, ← em], by omega, by omega, fun D hD => lc_range (lo := 0) (n := max 1 m.length) (fun i H' => Same H1 H' ∧ ∃ ps : List Addr, H' D = some (.lst (ps.map V.ref)) ∧ ps.length = i ∧ ∀ j p, ps[j]? = some p → SqT K H' p ((Rg.rot m j).map V.int)) ⟨new_same hD, [], upd_same, rfl, fun j p z => nomatch z⟩ (fun i H' hi p => ?_) fun H' p => ?_⟩
    · obtain ⟨e2, ps, d2, pl, hp⟩ := p
      refine ⟨rfl, ?_⟩
      refine ⟨.ref g, rfl, .int (0 + i), rfl, _, rfl, nopart (sl_ints (same_tup e2 hg) fun H3 p3 e3 h3 => ⟨.ref g, rfl, nopart ⟨.int (0 + i), rfl, _, rfl, sl_ints (same_tup (Same.trans e2 e3) hg) fun H4 p4 e4 h4 => ?_⟩⟩)⟩
      rw [Int.zero_add, cutI_from] at h3
      rw [Int.zero_add, cutI_to] at h4
      refine cat_ints (same_tup e4 h3) h4 (by rw [List.length_drop, List.length_take]; omega) fun H5 p5 e5 h5 => ?_
      have e25 := Same.trans (Same.trans e3 e4) e5
      have h5 : SqT K H5 p5 ((Rg.rot m i).map V.int) := h5
      have d5 := e25 _ _ d2
      refine ⟨_, d5, small1000 (by rw [List.length_map]; omega), same_mut (Same.trans e2 e25) hD, ps ++ [p5], by rw [upd_same, List.map_append]; rfl, by rw [List.length_append, pl]; rfl, fun j p z => ?_⟩
      refine tup_mut d5 ?_
      by_cases hj : j < ps.length
      · rw [List.getElem?_append_left hj] at z
        exact same_tup e25 (hp j p z)
      · rw [List.getElem?_append_right (by omega)] at z
        cases q : j - ps.length with
        | zero =>
          rw [q] at z
          cases z
          have : j = i := by omega
          subst this
          exact h5
        | succ u => rw [q] at z; cases z
    · obtain ⟨e2, ps, d2, pl, hp⟩ := p
      have lt : ((List.range (max 1 m.length)).map (Rg.rot m)).length = max 1 m.length := by rw [List.length_map, List.length_range]
      have at_ : ∀ j, j < max 1 m.length → ((List.range (max 1 m.length)).map (Rg.rot m))[j]? = some (Rg.rot m j) := fun j hj => by
        rw [List.getElem?_map, List.getElem?_range hj]
        rfl
      refine ⟨D, ps.map V.ref, (List.range (max 1 m.length)).map (Rg.rot m), rfl, lst_of d2, dpall_of (by rw [lt, pl]) fun j p t hj ht => ?_, by rw [lt]; omega, fun i v u hv hu hmin => ?_⟩
      · have hjl : j < max 1 m.length := by
          have := (List.getElem?_eq_some_iff.mp hj).1
          omega
        rw [at_ j hjl] at ht
        cases ht
        exact hp j p hj
      · have hil : i < max 1 m.length := by
          have := (List.getElem?_eq_some_iff.mp hu).1
          omega
        rw [at_ i hil] at hu
        cases hu
        rw [List.getElem?_map] at hv
        cases q : ps[i]? with
        | none => rw [q] at hv; cases hv
        | some p =>
          rw [q] at hv
          cases hv
          have hr : Rg.Ring m (Rg.rot m i) := by
            by_cases hm : m.length = 0
            · have e0 : m = [] := List.eq_nil_of_length_eq_zero hm
              subst e0
              have : i = 0 := by simp at hil; omega
              subst this
              exact Rg.ring_nil
            · refine Rg.ring_rot (by omega) (Rg.least_lex (by omega) fun t ht => hmin _ ?_)
              exact List.mem_map.mpr ⟨t, List.mem_range.mpr (by omega), rfl⟩
          exact k _ _ _ (Same.trans e1 e2) ⟨c, m, hs, hr⟩ (hp i p q)
theorem cl__law_ring (T : Txt K mg) : Cl P w K mg base 2 "_law_ring" (spLRing K) := by
  obtain ⟨f, fd, F, hm, hb⟩ := T.f__law_ring
  exact cl_of (ok__law_ring F T) hm F.kp hb
def ons (n : Int) (os : List (Option Int)) : List Int := (os.filter fun o => !okE n o).map fun _ => 1
theorem ons_nil {n : Int} {os : List (Option Int)} : ons n os = [] ↔ os.all (okE n) = true := by
  unfold ons
  rw [List.map_eq_nil_iff, List.filter_eq_nil_iff, List.all_eq_true]
  exact ⟨fun h x hx => by have := h x hx; simpa using this, fun h x hx => by have := h x hx; simp [this]⟩
def spIsDue (K : PySem.W.Frag) : Sp := fun vs H Q _ => ∃ (n : Int) (a b : Addr) (ns bs : List Int) (v : V) (o : Option (List (Option Int))), vs = [.int n, .ref a, .ref b, v] ∧ SqT K H a (ns.map V.int) ∧ ns.length ≤ 200 ∧ SqT K H b (bs.map V.int) ∧
  Va K H v o ∧ ∀ H', Same H H' → Q (.bl (dueV n ns bs o)) H'
theorem ok__law_is_due {f : Addr} {fd : FuncData} (F : Fun K "_law_is_due" "_law_is_due" st__law_is_due f fd) (T : Txt K mg) : FnOk P w K mg base CX0 2 f fd ["letters", "one", "other", "value"] (spIsDue K) := by
  have c__law_bare : Cl P w K mg base 1 "_law_bare" (spLBare K) := cl__law_bare T
  have c__law_back : Cl P w K mg base 1 "_law_back" (spOpp K) := cl__law_back T
  refine F.ok sc__law_is_due (fun vs H Q E h => ?_) (fun cdv A outer s H vs Q E hr h => ?_)
  · obtain ⟨n, a, b, ns, bs, v, o, rfl, _⟩ := h
    rfl
  · obtain ⟨n, a, b, ns, bs, v, o, rfl, h, hl, g, va, k⟩ := h
    refine ⟨_, (pss_cons (ps_if (PW.pt (pw_or (pt_not (pt_val (pe_callB (kcall_isi (K := K)) (by rfl) T.n_isinstance bo_isinstance (pa_cons (pv 3) (pa_cons (pe_bltn (by rfl) T.n_tuple bo_tuple rel_ty) pa_nil))))) (pw_or1 (pt_cmpR op_gt (pe_callB (kcall_len (K := K)) (by rfl) T.n_len bo_len (pa_cons (pv 3) pa_nil)) pe_int (nomark _))))) (pss_one (ps_ret pe_bl)) pss_nil) (pss_cons (ps_if (pt_cmpR (kop_neD (K := K) hr.units) (pe_lc (own := [("e", 4)]) rfl sc__law_is_due.nd (kpi_tup (K := K) (pv 3)) (blkOk_by (N := nm__law_is_due) (sc := defScope st__law_is_due) (by decide +kernel)) (fun _ _ _ _ _ => (pg_name (i := 4) sc__law_is_due.nd rfl (by first | exact Or.inl rfl | exact Or.inr rfl))) (fun _ _ _ _ _ => pts_one (PW.pt (pw_or (pt_val (pe_callB (kcall_isi (K := K)) (by rfl) T.n_isinstance bo_isinstance (pa_cons (pv 4) (pa_cons (pe_bltn (by rfl) T.n_bool bo_bool rel_ty) pa_nil)))) (pw_or (pt_not (pt_val (pe_callB (kcall_isi (K := K)) (by rfl) T.n_isinstance bo_isinstance (pa_cons (pv 4) (pa_cons (pe_bltn (by rfl) T.n_int bo_int rel_ty) pa_nil))))) (pw_or1 (pt_not (pt_chain op_le op_le pe_int (pe_callB call_abs (by rfl) T.n_abs bo_abs (pa_cons (pv 4) pa_nil)) (pv 0)))))))) (fun _ _ _ _ _ => pe_int)) (pe_lst pa_nil) (nomark _)) (pss_one (ps_ret pe_bl)) pss_nil) (pss_one (ps_ret (pe_and (pe_cmpR (kop_eqD (K := K) hr.units) (pe_f c__law_bare hr (by decide) rfl (pa_cons (pv 3) pa_nil)) (pv 3) (nomark _)) (pe_one (pe_cmpR (kop_eqD (K := K) hr.units) (pe_f c__law_bare hr (by decide) rfl (pa_cons (pe_op (kop_catA (K := K)) (pe_op (kop_catA (K := K)) (pv 3) (pv 1)) (pe_f c__law_back hr (by decide) rfl (pa_cons (pv 3) pa_nil))) pa_nil)) (pv 2) (nomark _)))))))), ?_⟩
    cases va with
    | oth hv kt =>
      refine ⟨v, rfl, v, _, _, _, false, rfl, .ty _, hv, kit_ty kt, false, rfl, ?_⟩
      exact k _ (Same.refl _)
    | @tup c xs os hx hxl he =>
      refine ⟨.ref c, rfl, .ref c, _, _, _, true, rfl, .ty _, tyx_tup hx, kit_ty (by decide +kernel), true, rfl, ?_⟩
      refine iteF ⟨.ref c, rfl, c, xs, rfl, .inr hx, _, _, rfl, rfl, _, rfl, ?_⟩
      refine ite2 (fun h1 => ?_) fun h1 => ?_
      · have h1 := of_decide_eq_true h1
        have e : dueV n ns bs (some os) = false := by
          show (((!decide ((400 : Int) < (os.length : Int)) && os.all (okE n)) && _) && _) = false
          rw [decide_eq_true (by rw [← hxl]; exact h1)]
          rfl
        have := k _ (Same.refl _)
        rw [e] at this
        exact this
      · have h1 : ¬ (400 : Int) < (xs.length : Int) := fun q => h1 (decide_eq_true q)
        refine ⟨.ref c, rfl, c, rfl, ⟨xs, hx⟩, fun D hD => lc_tup (K := K) (a := c) (xs := xs) (fun i H' => Same H H' ∧ H' D = some (.lst ((ons n (os.take i)).map V.int))) ⟨new_same hD, upd_same⟩ (fun i H' _ p => same_tup p.1 hx) (fun i x H' hxi p => ?_) fun H' p => ?_⟩
        · refine ⟨rfl, ?_⟩
          have hi : i < xs.length := (List.getElem?_eq_some_iff.mp hxi).1
          obtain ⟨o, ho⟩ : ∃ o, os[i]? = some o := ⟨os[i]'(by omega), List.getElem?_eq_getElem _⟩
          have en := (he i x o hxi ho).same p.1
          have e1 : ons n (os.take (i + 1)) = ons n (os.take i) ++ ons n [o] := by
            unfold ons
            rw [List.take_succ, ho, List.filter_append, List.map_append]
            rfl
          have yes : okE n o = false → ∃ acc, H' D = some (.lst acc) ∧ acc.length < sizeLine ∧ (Same H (upd H' D (.lst (acc ++ [V.int 1]))) ∧ upd H' D (.lst (acc ++ [V.int 1])) D = some (.lst ((ons n (os.take (i + 1))).map V.int))) := fun z => by
            refine ⟨_, p.2, small1000 ?_, same_mut p.1 hD, ?_⟩
            · rw [List.length_map]
              unfold ons
              rw [List.length_map]
              have := List.length_filter_le (fun o => !okE n o) (os.take i)
              rw [List.length_take] at this
              omega
            · rw [upd_same, e1, List.map_append]
              have : ons n [o] = [1] := by unfold ons; rw [List.filter_cons, z]; rfl
              rw [this]
              rfl
          have no : okE n o = true → (Same H H' ∧ H' D = some (.lst ((ons n (os.take (i + 1))).map V.int))) := fun z => ⟨p.1, by
            have : ons n [o] = [] := by unfold ons; rw [List.filter_cons, z]; rfl
            rw [e1, this, List.append_nil]
            exact p.2⟩
          cases en with
          | oth h0 k1 k2 k3 =>
            rename_i t ib bb
            refine ⟨x, rfl, x, _, _, _, bb, rfl, .ty _, h0, kit_ty k2, bb, rfl, ?_⟩
            cases bb with
            | true => exact iteT (yes rfl)
            | false =>
              refine iteF ⟨x, rfl, x, _, _, _, ib, rfl, .ty _, h0, kit_ty k1, ib, rfl, ?_⟩
              have : ib = false := by cases ib with
                | false => rfl
                | true => cases k3
              subst this
              exact iteT (yes rfl)
          | int i1 =>
            refine ⟨.int i1, rfl, .int i1, _, _, _, false, rfl, .ty _, .base (.int i1), kit_ty (by decide +kernel), false, rfl, ?_⟩
            refine iteF ⟨.int i1, rfl, .int i1, _, _, _, true, rfl, .ty _, .base (.int i1), kit_ty (by decide +kernel), true, rfl, ?_⟩
            refine iteF ⟨.int i1, rfl, i1, rfl, _, _, rfl, rfl, _, rfl, ?_⟩
            have eo : okE n (some i1) = (decide (1 ≤ (if i1 < 0 then -i1 else i1)) && decide ((if i1 < 0 then -i1 else i1) ≤ n)) := rfl
            refine ite2 (fun q1 => ⟨.int n, rfl, _, _, rfl, rfl, _, rfl, ?_⟩) fun q1 => ⟨_, rfl, ?_⟩
            · rw [q1, Bool.true_and] at eo
              rw [← eo]
              cases z : okE n (some i1) with
              | true => exact no z
              | false => exact yes z
            · rw [Bool.eq_false_iff.mpr q1, Bool.false_and] at eo
              exact yes eo
        · refine ⟨Nat.zero_le _, fun z hz => ?_⟩
          have nz : D ≠ z := fun q => by rw [← q, p.2] at hz; cases hz
          have d2 : upd H' z (.lst []) D = some (.lst ((ons n (os.take xs.length)).map V.int)) := by rw [upd_ne nz]; exact p.2
          have e2 := Same.trans p.1 (new_same (o := .lst []) hz)
          have dz : upd H' z (.lst []) z = some (.lst (([] : List Int).map V.int)) := upd_same
          generalize upd H' z (.lst []) = H2 at d2 e2 dz
          rw [List.take_of_length_le (by omega)] at d2
          refine ne_list (lst_of d2) (lst_of dz) ⟨_, rfl, ite2 (fun g1 => ?_) fun g1 => ?_⟩
          · have g1 : ¬ ons n os = [] := by simpa using g1
            have e : dueV n ns bs (some os) = false := by
              show (((_ && os.all (okE n)) && _) && _) = false
              rw [Bool.eq_false_iff.mpr fun q => g1 (ons_nil.mpr q)]
              rw [Bool.and_false, Bool.false_and, Bool.false_and]
            have := k _ e2
            rw [e] at this
            exact this
          · have g1 : ons n os = [] := by simpa using g1
            have hall := ons_nil.mp g1
            have e0 := all_some hall
            have ex := ints_of hxl he e0
            have el : (intsOf os).length = xs.length := by rw [ex, List.length_map]
            rw [ex] at hx
            generalize hms : intsOf os = ms at *
            have hx2 := same_tup e2 hx
            have ed : dueV n ns bs (some os) = (decide (Fr.red ms = ms) && decide (Fr.red (ms ++ ns ++ Fr.opp ms) = bs)) := by
              show (((!decide ((400 : Int) < (os.length : Int)) && os.all (okE n)) && nfB (intsOf os)) && decide (Fr.red (intsOf os ++ ns ++ Fr.opp (intsOf os)) = bs)) = _
              rw [hms, hall, decide_eq_false (by omega : ¬ (400 : Int) < (os.length : Int))]
              have : nfB ms = decide (Fr.red ms = ms) := by
                cases q : nfB ms with
                | true => exact (decide_eq_true (Fr.red_id (nfB_iff.mp q))).symm
                | false => exact (decide_eq_false fun z => by
                    have := Fr.red_nf ms
                    rw [z] at this
                    rw [nfB_iff.mpr this] at q
                    cases q).symm
              rw [this]
              rfl
            refine ⟨.ref c, rfl, c, ms, rfl, .inr hx2, by omega, fun H3 p3 e3 h3 => ⟨.ref c, rfl, eq_tup h3 (same_tup e3 hx2) ⟨_, rfl, ?_⟩⟩⟩
            have e23 := Same.trans e2 e3
            cases qd : decide (Fr.red ms = ms) with
            | false =>
              have := k _ e23
              rw [ed, qd, Bool.false_and] at this
              exact this
            | true =>
              rw [qd, Bool.true_and] at ed
              refine ⟨.ref c, rfl, .ref a, rfl, cat_ints (same_tup e3 hx2) (same_tup e23 h) (by omega) fun H4 p4 e4 h4 => ⟨.ref c, rfl, c, ms, rfl, same_tup (Same.trans e3 e4) hx2, by omega, fun H5 p5 e5 h5 => cat_ints (same_tup e5 h4) h5 (by rw [List.length_append, Fr.opp_len]; omega) fun H6 p6 e6 h6 => ?_⟩⟩
              refine ⟨p6, _, rfl, .inr h6, by simp only [List.length_append, Fr.opp_len]; omega, fun H7 p7 e7 h7 => ⟨.ref b, rfl, ?_⟩⟩
              have e27 := Same.trans (Same.trans (Same.trans (Same.trans e23 e4) e5) e6) e7
              have := k _ e27
              rw [ed] at this
              exact eq_tup h7 (same_tup e27 g) this
theorem cl__law_is_due (T : Txt K mg) : Cl P w K mg base 2 "_law_is_due" (spIsDue K) := by
  obtain ⟨f, fd, F, hm, hb⟩ := T.f__law_is_due
  exact cl_of (ok__law_is_due F T) hm F.kp hb
theorem asg_list {σ : L2.St} {H : Hp} {D : Ends} {ta : TA} {n i : Nat} {P : V → Hp → Prop} (pp : ∀ v H H1, Same H H1 → P v H → P v H1) (h : EvA ta σ H n P) (hz : n ≤ 1000)
    (k : ∀ p vs H', Same H H' → H p = none → H' p = some (.lst vs) → vs.length = n → (∀ v ∈ vs, P v H') → D.nx (σ.set i (some (.ref p))) H') : tAsg (tLst ta) (gName i) D σ H :=
  h H (Same.refl _) _ fun vs H1 e hn hv => ⟨Nat.le_of_lt (small1000 (by omega)), fun p hp => k p vs _ (Same.trans e (new_same hp)) (Same.free e hp) upd_same hn fun v hv' => pp _ _ _ (new_same hp) (hv v hv')⟩
theorem cat_list {σ : L2.St} {H : Hp} {ta : TA} {n j : Nat} {l : Addr} {xs : List V} {P : V → Hp → Prop} {Q : VK} (pp : ∀ v H H1, Same H H1 → P v H → P v H1) (h : EvA ta σ H n P) (hj : σ[j]? = some (some (.ref l))) (hl : H l = some (.lst xs)) (hx : ∀ v ∈ xs, P v H) (hz : xs.length + n ≤ 1000)
    (k : ∀ p vs H', Same H H' → H p = none → H' p = some (.lst vs) → vs.length = xs.length + n → (∀ v ∈ vs, P v H') → Q (.ref p) H') : tOp rCat (tVar j) (tLst ta) σ H Q :=
  ⟨.ref l, hj, h H (Same.refl _) _ fun vs H1 e hn hv => ⟨Nat.le_of_lt (small1000 (by omega)), fun b hb => by
    have hlb : l ≠ b := fun q => by
      have z := e _ _ hl
      rw [q, hb] at z
      cases z
    refine ⟨l, b, xs, vs, rfl, rfl, by rw [upd_ne hlb]; exact e _ _ hl, upd_same, Nat.le_of_lt (small1000 (by omega)), fun p hp => ?_⟩
    have e2 := Same.trans (new_same (o := .lst vs) hb) (new_same (o := .lst (xs ++ vs)) hp)
    refine k p (xs ++ vs) _ (Same.trans e e2) (Same.free (Same.trans e (new_same hb)) hp) upd_same (by rw [List.length_append, hn]) fun v hv' => ?_
    rcases List.mem_append.mp hv' with q | q
    · exact pp _ _ _ (Same.trans e e2) (hx v q)
    · exact pp _ _ _ e2 (hv v q)⟩⟩
theorem evs_un {σ : L2.St} {H : Hp} : EvS (tUn (rU fun i => V.int (-i)) (tC (.int 1))) σ H (IsE K (some (-1))) := fun H1 e Q q => ⟨1, rfl, q _ _ (Same.refl _) (.int (-1))⟩
theorem evs_i {σ : L2.St} {H : Hp} (i : Int) : EvS (tC (.int i)) σ H (IsE K (some i)) := evs_c fun _ _ => .int i
theorem en_bl {H : Hp} (b : Bool) : En K H (.bl b) none := .oth (t := "bool") (i := true) (b := true) (.base (.bl b)) (by decide +kernel) (by decide +kernel) rfl
theorem va_non {H : Hp} : Va K H .non none := .oth (t := "NoneType") (.base .non) (by decide +kernel)
theorem va_int {H : Hp} (i : Int) : Va K H (.int i) none := .oth (t := "int") (.base (.int i)) (by decide +kernel)
theorem va_str {H : Hp} (x : Str) : Va K H (.str x) none := .oth (t := "str") (.base (.str x)) (by decide +kernel)
/-- some row of numbers, not too long -/
def IsW (K : PySem.W.Frag) (z : Nat) : V → Hp → Prop := fun v H => ∃ (a : Addr) (ms : List Int), v = .ref a ∧ SqT K H a (ms.map V.int) ∧ ms.length ≤ z
def IsV (K : PySem.W.Frag) : V → Hp → Prop := fun v H => ∃ o, Va K H v o
theorem vw {σ : L2.St} {H : Hp} {te : TE} {z : Nat} (h : EvS te σ H (IsW K z)) : EvS te σ H (IsV K) := evs_of h fun v H ⟨a, ms, e, ha, _⟩ => ⟨_, e ▸ va_ints ha⟩
theorem vt {σ : L2.St} {H : Hp} {te : TE} {os : List (Option Int)} (h : EvS te σ H (IsT K os)) : EvS te σ H (IsV K) := evs_of h fun v H q => ⟨_, q⟩
theorem vo {σ : L2.St} {H : Hp} {te : TE} (h : EvS te σ H fun v H => Va K H v none) : EvS te σ H (IsV K) := evs_of h fun v H q => ⟨_, q⟩
theorem w_cat {σ : L2.St} {H : Hp} {ta tb : TE} {x y : Nat} (h : EvS ta σ H (IsW K x)) (g : EvS tb σ H (IsW K y)) (hz : x + y ≤ 10000) : EvS (tOp (rCatA K) ta tb) σ H (IsW K (x + y)) := fun H1 e Q q =>
  h H1 e _ fun v H2 e2 ⟨a, ms, ev, ha, hl⟩ => g H2 (Same.trans e e2) _ fun u H3 e3 ⟨b, ns, eu, hb, hm⟩ => by
    subst ev eu
    exact cat_ints (same_tup e3 ha) hb (by omega) fun H4 p e4 hp => q _ _ (Same.trans (Same.trans e2 e3) e4) ⟨p, _, rfl, hp, by rw [List.length_append]; omega⟩
theorem w_bare {σ : L2.St} {H : Hp} {te : TE} {z : Nat} (h : EvS te σ H (IsW K z)) (hz : z ≤ 20000) : EvS (tFn (spLBare K) (tCons te tNil)) σ H (IsW K z) := fun H1 e Q q =>
  h H1 e _ fun v H2 e2 ⟨a, ms, ev, ha, hl⟩ => ⟨a, ms, by rw [ev], .inr ha, by omega, fun H3 p e3 hp => q _ _ (Same.trans e2 e3) ⟨p, _, rfl, hp, Nat.le_trans (len_red _) hl⟩⟩
theorem w_back {σ : L2.St} {H : Hp} {te : TE} {z : Nat} (h : EvS te σ H (IsW K z)) (hz : z ≤ 20000) : EvS (tFn (spOpp K) (tCons te tNil)) σ H (IsW K z) := fun H1 e Q q =>
  h H1 e _ fun v H2 e2 ⟨a, ms, ev, ha, hl⟩ => ⟨a, ms, by rw [ev], ha, by omega, fun H3 p e3 hp => q _ _ (Same.trans e2 e3) ⟨p, _, rfl, hp, by rw [Fr.opp_len]; exact hl⟩⟩
theorem isv_same {v : V} {H H1 : Hp} (e : Same H H1) (h : IsV K v H) : IsV K v H1 := h.elim fun o q => ⟨o, va_same e q⟩
/-- kinds stay when the sack changes -/
theorem tyx_rs {S : Addr} {v : V} {t : Value} {H H1 : Hp} (r : Rs (some S) H H1) (h : TyX K H v t) : TyX K H1 v t := by
  have kp : ∀ {a : Addr} {u : HO}, H a = some u → (∀ ys, u ≠ .lst ys) → H1 a = some u := fun ea hn => r.keep _ _ (r.s0.ne ea hn) ea
  cases h with
  | base b =>
    refine .base ?_
    cases b with
    | non => exact .non
    | bl y => exact .bl y
    | int i => exact .int i
    | str y => exact .str y
    | flt y => exact .flt y
    | lst ea =>
      rename_i a xs
      by_cases q : S = a
      · obtain ⟨x, y, z, ez⟩ := r.s1
        rw [q] at ez
        exact .lst ez
      · exact .lst (r.keep _ _ (fun z => q (Option.some.inj z)) ea)
    | frz ea => exact .frz (kp ea fun _ q => nomatch q)
    | tup ea => exact .tup (kp ea fun _ q => nomatch q)
    | dK ea => exact .dK (kp ea fun _ q => nomatch q)
    | dT ea => exact .dT (kp ea fun _ q => nomatch q)
    | ins ea cl ha hn htk hm => exact .ins (kp ea fun _ q => nomatch q) cl ha hn htk hm
  | byt b => exact .byt b
  | set ea => exact .set (kp ea fun _ q => nomatch q)
  | kList ea c => exact .kList ea c
  | kTuple ea c => exact .kTuple ea c
  | kDict ea c => exact .kDict ea c
  | fTuple ea => exact .fTuple (kp ea fun _ q => nomatch q)
  | fDict ea => exact .fDict (kp ea fun _ q => nomatch q)
theorem en_rs {S : Addr} {v : V} {o : Option Int} {H H1 : Hp} (r : Rs (some S) H H1) (h : En K H v o) : En K H1 v o := by
  cases h with
  | int i => exact .int i
  | oth h k1 k2 k3 => exact .oth (tyx_rs r h) k1 k2 k3
theorem va_rs {S : Addr} {v : V} {o : Option (List (Option Int))} {H H1 : Hp} (r : Rs (some S) H H1) (h : Va K H v o) : Va K H1 v o := by
  cases h with
  | tup h hl he => exact .tup (r.tup h) hl fun j x o hx ho => en_rs r (he j x o hx ho)
  | oth h k => exact .oth (tyx_rs r h) k
def spNear (K : PySem.W.Frag) : Sp := fun vs H Q _ => ∃ (S a b t : Addr) (n : Int) (ns bs ts : List Int), vs = [.ref S, .int n, .ref a, .ref b, .ref t] ∧ Sk H (some S) ∧ 1 ≤ n ∧ n ≤ 5 ∧ SqT K H a (ns.map V.int) ∧ Wd n ns ∧ ns.length ≤ 200 ∧ SqT K H b (bs.map V.int) ∧ bs.length ≤ 200 ∧ SqT K H t (ts.map V.int) ∧ ts.length ≤ 400 ∧
  ∀ H' p xs, Rs (some S) H H' → H' p = some (.lst xs) → S ≠ p → xs.length ≤ 1000 → (∀ x ∈ xs, IsV K x H') → Q (.ref p) H'
theorem ok__law_near {f : Addr} {fd : FuncData} (F : Fun K "_law_near" "_law_near" st__law_near f fd) (T : Txt K mg) : FnOk P w K mg base CX0 3 f fd ["sack", "letters", "one", "other", "told"] (spNear K) := by
  have c__law_bare : Cl P w K mg base 1 "_law_bare" (spLBare K) := cl__law_bare T
  have c__law_back : Cl P w K mg base 1 "_law_back" (spOpp K) := cl__law_back T
  have c__law_core : Cl P w K mg base 1 "_law_core" (spLCore K) := cl__law_core T
  have c__law_word : Cl P w K mg base 2 "_law_word" (spWord K) := cl__law_word T
  refine F.ok sc__law_near (fun vs H Q E h => ?_) (fun cdv A outer s H vs Q E hr h => ?_)
  · obtain ⟨S, a, b, t, n, ns, bs, ts, rfl, _⟩ := h
    rfl
  · obtain ⟨S, a, b, t, n, ns, bs, ts, rfl, hS, n1, n5, ha, hw, hl, hb, bl, ht, tl, k⟩ := h
    refine ⟨_, (pss_cons (ps_set (i := 5) sc__law_near.nd rfl (Or.inl rfl) (pe_lst (pa_cons (pv 4) (pa_cons (pe_callTy (kcall_list (K := K)) (by rfl) T.n_list bo_list (pa_cons (pv 4) pa_nil)) (pa_cons pe_non (pa_cons pe_int (pa_cons (pe_tup pa_nil) (pa_cons (pe_tup (pa_cons pe_int pa_nil)) (pa_cons pe_str (pa_cons pe_dnewK (pa_cons (pe_tup (pa_cons (pe_op op_add (pv 1) pe_int) pa_nil)) (pa_cons (pe_tup (pa_cons pe_int (pa_cons (pe_un un_neg pe_int) pa_nil))) (pa_cons (pe_tup (pa_cons pe_bl pa_nil)) (pa_cons (pe_op (kop_catA (K := K)) (pv 4) (pe_tup (pa_cons pe_int pa_nil))) (pa_cons (pe_slice (ksl_tupA (K := K)) (pv 4) (po_some pe_int) po_none) pa_nil))))))))))))))) (pss_cons (ps_if (pt_cmpR (kop_neD (K := K) hr.units) (pv 2) (pe_tup pa_nil) (nomark _)) (pss_cons (ps_set (i := 5) sc__law_near.nd rfl (Or.inl rfl) (pe_op op_cat (pv 5) (pe_lst (pa_cons (pe_f c__law_bare hr (by decide) rfl (pa_cons (pe_op (kop_catA (K := K)) (pv 4) (pv 2)) pa_nil)) (pa_cons (pe_f c__law_bare hr (by decide) rfl (pa_cons (pe_op (kop_catA (K := K)) (pe_op (kop_catA (K := K)) (pv 4) (pe_f c__law_back hr (by decide) rfl (pa_cons (pv 2) pa_nil))) (pe_f c__law_back hr (by decide) rfl (pa_cons (pv 2) pa_nil))) pa_nil)) pa_nil))))) (pss_one (ps_set (i := 5) sc__law_near.nd rfl (Or.inl rfl) (pe_op op_cat (pv 5) (pe_lst (pa_cons (pe_f c__law_bare hr (by decide) rfl (pa_cons (pe_op (kop_catA (K := K)) (pv 3) (pv 4)) pa_nil)) (pa_cons (pe_f c__law_bare hr (by decide) rfl (pa_cons (pe_op (kop_catA (K := K)) (pv 4) (pe_f c__law_core hr (by decide) rfl (pa_cons (pv 2) pa_nil))) pa_nil)) pa_nil))))))) pss_nil) (pss_one (ps_ret (pe_op op_cat (pv 5) (pe_lst (pa_cons (pe_f c__law_word hr (by decide) rfl (pa_cons (pv 0) (pa_cons (pv 1) (pa_cons pe_int pa_nil)))) (pa_cons (pe_f c__law_back hr (by decide) rfl (pa_cons (pv 4) pa_nil)) pa_nil)))))))), ?_⟩
    have pp : ∀ v H H1, Same H H1 → IsV K v H → IsV K v H1 := fun v H H1 e q => isv_same e q
    let sg : Option V → L2.St := fun x => [some (.ref S), some (.int n), some (.ref a), some (.ref b), some (.ref t), x]
    have w2 : ∀ (x : Option V) (H2 : Hp), Same H H2 → EvS (tVar 2) (sg x) H2 (IsW K 200) := fun x H2 e => evs_var rfl fun H3 e3 => ⟨a, ns, rfl, same_tup (Same.trans e e3) ha, hl⟩
    have w3 : ∀ (x : Option V) (H2 : Hp), Same H H2 → EvS (tVar 3) (sg x) H2 (IsW K 200) := fun x H2 e => evs_var rfl fun H3 e3 => ⟨b, bs, rfl, same_tup (Same.trans e e3) hb, bl⟩
    have w4 : ∀ (x : Option V) (H2 : Hp), Same H H2 → EvS (tVar 4) (sg x) H2 (IsW K 400) := fun x H2 e => evs_var rfl fun H3 e3 => ⟨t, ts, rfl, same_tup (Same.trans e e3) ht, tl⟩
    have row1 : EvA _ (sg none) H 13 (IsV K) :=
      eva_cons pp (vw (w4 none H (Same.refl _)))
      (eva_cons pp (vo (te := tCB (rListOf K) (tCons (tVar 4) tNil)) (fun H2 e Q q => ⟨.ref t, rfl, t, _, rfl, .inr (same_tup e ht), fun l hl => q _ _ (new_same hl) (.oth (t := "list") (.base (.lst upd_same)) (by decide +kernel))⟩))
      (eva_cons pp (vo (evs_c fun _ _ => va_non))
      (eva_cons pp (vo (evs_c fun _ _ => va_int 0))
      (eva_cons pp (vt evs_t0)
      (eva_cons pp (vt (evs_t1 (evs_i 0)))
      (eva_cons pp (vo (evs_c fun _ _ => va_str "a"))
      (eva_cons pp (vo (te := tDNewK) (fun H2 e Q q => fun d hd => q _ _ (new_same hd) (.oth (t := "dict") (.base (.dK upd_same)) (by decide +kernel))))
      (eva_cons pp (vt (evs_t1 (te := tOp (rI0 fun i j => .int (i + j)) (tVar 1) (tC (.int 1))) (o := some (n + 1)) fun H3 e3 Q q => ⟨.int n, rfl, _, _, rfl, rfl, q _ _ (Same.refl _) (.int (n + 1))⟩))
      (eva_cons pp (vt (evs_t2 (evs_i 1) evs_un))
      (eva_cons pp (vt (evs_t1 (evs_c fun _ _ => en_bl true)))
      (eva_cons pp (vt (evs_cat (ta := tVar 4) (os := ts.map some) (fun H2 e Q q => ⟨.ref t, rfl, q _ _ (Same.refl _) (va_ints (same_tup e ht))⟩) (evs_t1 (evs_i 1)) (by rw [List.length_map]; show ts.length + 1 ≤ 100000; omega)))
      (eva_cons pp (vw (z := 400) (te := tSl (rSlA K) (tVar 4) (tPart (tC (.int 1))) tNoPart) fun H2 e Q q => ⟨.ref t, rfl, 1, rfl, nopart (sl_ints (same_tup e ht) fun H3 p e3 hp => q _ _ e3 ⟨p, _, rfl, hp, by rw [show (some (1 : Int)) = some ((1 : Nat) : Int) from rfl, cutI_from, List.length_drop]; omega⟩)⟩) eva_nil))))))))))))
    refine asg_list pp row1 (by decide) fun p1 vs1 H1 e1 f1 d1 l1 i1 => ?_
    have last : ∀ (p : Addr) (vs : List V) (H2 : Hp), Same H H2 → H p = none → H2 p = some (.lst vs) → vs.length ≤ 100 → (∀ v ∈ vs, IsV K v H2) → (tRet (tOp rCat (tVar 5) (tLst (tCons (tFn (spWord K) (tCons (tVar 0) (tCons (tVar 1) (tCons (tC (.int 3)) tNil)))) (tCons (tFn (spOpp K) (tCons (tVar 4) tNil)) tNil))))) { nx := fun _ H' => Q .non H', rt := Q } (sg (some (.ref p))) H2 := fun p vs H2 e2 f2 d2 l2 i2 => by
      have nSp : S ≠ p := sk_ne hS f2
      refine ⟨.ref p, rfl, .ref S, rfl, .int n, rfl, S, n, 3, rfl, hS.same e2, n1, n5, by decide, by decide, fun H3 pw ws r3 hpw wd lw => ⟨.ref t, rfl, t, ts, rfl, r3.tup (same_tup e2 ht), by omega, fun H4 pb e4 hpb => ⟨by show 2 ≤ sizeLine; decide, fun c hc => ?_⟩⟩⟩
      have r24 : Rs (some S) H2 H4 := r3.tr (.same r3.s1 e4)
      have d4 : H4 p = some (.lst vs) := r24.keep _ _ (fun q => nSp (Option.some.inj q)) d2
      have npc : p ≠ c := fun q => by rw [← q, d4] at hc; cases hc
      have r5 : Rs (some S) H2 (upd H4 c (.lst [.ref pw, .ref pb])) := r24.tr (.same r24.s1 (new_same hc))
      refine ⟨p, c, vs, _, rfl, rfl, by rw [upd_ne npc]; exact d4, upd_same, Nat.le_of_lt (small1000 (by show vs.length + 2 ≤ 1000; omega)), fun u hu => ?_⟩
      have e6 := new_same (o := .lst (vs ++ [.ref pw, .ref pb])) hu
      have r6 : Rs (some S) H2 _ := r5.tr (.same r5.s1 e6)
      refine k _ u _ ((Rs.same hS e2).tr r6) upd_same (sk_ne r5.s1 hu) (by rw [List.length_append]; show vs.length + 2 ≤ 1000; omega) fun x hx => ?_
      rcases List.mem_append.mp hx with q | q
      · obtain ⟨o, ho⟩ := i2 x q
        exact ⟨o, va_rs r6 ho⟩
      · have e46 := Same.trans (new_same (o := .lst [.ref pw, .ref pb]) hc) e6
        rcases List.mem_cons.mp q with q | q
        · rw [q]; exact ⟨_, va_ints (same_tup (Same.trans e4 e46) hpw)⟩
        · rw [List.mem_singleton.mp q]; exact ⟨_, va_ints (same_tup e46 hpb)⟩
    refine ⟨.ref a, rfl, Nat.zero_le _, fun z hz => ne_tup (ms := []) (same_tup (Same.trans e1 (new_same hz)) ha) (tup_of upd_same) ⟨_, rfl, ?_⟩⟩
    have ez := new_same (o := .tup []) hz
    have d1 := ez _ _ d1
    have i1 : ∀ v ∈ vs1, IsV K v (upd H1 z (.tup [])) := fun v hv => isv_same ez (i1 v hv)
    have e1 := Same.trans e1 ez
    generalize upd H1 z (.tup []) = H2 at e1 d1 i1
    refine ite2 (fun g => ?_) fun g => last p1 vs1 H2 e1 f1 d1 (by rw [l1]; decide) i1
    have row2 : EvA _ (sg (some (.ref p1))) H2 2 (IsV K) :=
      eva_cons pp (vw (w_bare (w_cat (w4 _ H2 e1) (w2 _ H2 e1) (by decide)) (by decide)))
      (eva_cons pp (vw (w_bare (w_cat (w_cat (w4 _ H2 e1) (w_back (w2 _ H2 e1) (by decide)) (by decide)) (w_back (w2 _ H2 e1) (by decide)) (by decide)) (by decide))) eva_nil)
    refine cat_list pp row2 rfl d1 i1 (by rw [l1]; decide) fun p2 vs2 H3 e3 f3 d3 l3 i3 => ?_
    have e13 := Same.trans e1 e3
    have wc : EvS (tFn (spLCore K) (tCons (tVar 2) tNil)) (sg (some (.ref p2))) H3 (IsW K 200) := fun H4 e4 Q q => ⟨.ref a, rfl, n, a, ns, rfl, same_tup (Same.trans e13 e4) ha, hw, by omega, fun H5 p c m e5 hs hm => q _ _ e5 ⟨p, m, rfl, hm, by
      have := congrArg List.length hs.1
      rw [List.length_append, List.length_append] at this
      omega⟩⟩
    have row3 : EvA _ (sg (some (.ref p2))) H3 2 (IsV K) :=
      eva_cons pp (vw (w_bare (w_cat (w3 _ H3 e13) (w4 _ H3 e13) (by decide)) (by decide)))
      (eva_cons pp (vw (w_bare (w_cat (w4 _ H3 e13) wc (by decide)) (by decide))) eva_nil)
    refine cat_list pp row3 rfl d3 i3 (by rw [l3, l1]; decide) fun p3 vs3 H4 e4 f4 d4 l4 i4 => ?_
    exact last p3 vs3 H4 (Same.trans e13 e4) (Same.free e13 f4) d4 (by rw [l4, l3, l1]; decide) i4
theorem cl__law_near (T : Txt K mg) : Cl P w K mg base 3 "_law_near" (spNear K) := by
  obtain ⟨f, fd, F, hm, hb⟩ := T.f__law_near
  exact cl_of (ok__law_near F T) hm F.kp hb
theorem te_join {te : TE} {σ : L2.St} {H : Hp} {Q : VK} (P : V → Hp → Prop) (hc : ∀ Q' : VK, (∀ v H, P v H → Q' v H) → te σ H Q') (rest : ∀ v H, P v H → Q v H) : te σ H Q := hc Q rest
theorem asg_join {te : TE} {g : TG} {u : TS} {D : Ends} {σ : L2.St} {H : Hp} (P : V → Hp → Prop) (hc : ∀ Q' : VK, (∀ v H, P v H → Q' v H) → te σ H Q') (rest : ∀ v H, P v H → g v σ H (u D)) : tSeq (tAsg te g) u D σ H := hc _ rest
theorem ifs_join {c : TT} {t u x : TS} {D : Ends} {σ : L2.St} {H : Hp} (P : Bool → Hp → Prop) (hc : ∀ Q' : Bool → Hp → Prop, (∀ b H, P b H → Q' b H) → c σ H Q') (rest : ∀ b H, P b H → if b = true then t { D with nx := x D } σ H else u { D with nx := x D } σ H) : tSeq (tIfS c t u) x D σ H := hc _ rest
theorem told_if {i j : Nat} {σ : L2.St} {H : Hp} {Q : VK} {v x u : V} (c : Bool) (hi : σ[i]? = some (some v)) (hj : σ[j]? = some (some x)) (hu : (if c = true then v else x) = u) (h : Q u H) : if c = true then tVar i σ H Q else tVar j σ H Q := by
  subst hu
  cases c with
  | true => exact ⟨v, hi, h⟩
  | false => exact ⟨x, hj, h⟩
theorem tt_join {t : TT} {σ : L2.St} {H : Hp} {Q : Bool → Hp → Prop} (P : Bool → Hp → Prop) (hc : ∀ Q' : Bool → Hp → Prop, (∀ v H, P v H → Q' v H) → t σ H Q') (rest : ∀ v H, P v H → Q v H) : t σ H Q := hc Q rest
theorem add_is {H : Hp} {Q : VK} {i j v : Int} (e : i + j = v) (q : Q (.int v) H) : rI0 (fun i j => V.int (i + j)) (.int i) (.int j) H Q := ⟨i, j, rfl, rfl, by subst e; exact q⟩
theorem c_part {v : V} {σ : L2.St} {H : Hp} {Q : VK} (h : Q v H) : tC v σ H Q := h
def pairD (x y : List Int) : PyData := .tuple [tupD x, tupD y]
theorem dp_pair {H : Hp} {p a b : Addr} {x y : List Int} (h : SqT K H p [.ref a, .ref b]) (ha : SqT K H a (x.map V.int)) (hb : SqT K H b (y.map V.int)) : Dp K H (.ref p) (pairD x y) := .tup h (.cons (dp_tup ha) (.cons (dp_tup hb) .nil))
theorem shaped_pair (x y : List Int) : SeqAt.shaped (pairD x y) = true := by
  unfold SeqAt.shaped pairD
  have e1 : (PyData.tuple [tupD x, tupD y]).canLay0 = true := by
    show (PyData.canLay0 (tupD x) && (PyData.canLay0 (tupD y) && true)) = true
    rw [canLay_tup, canLay_tup]
    rfl
  have e2 : ∀ z, (tupD z).depth = 1 := fun z => by
    show PyData.depthAll (z.map .int) + 1 = 1
    rw [depth_ints]
  have e3 : (PyData.tuple [tupD x, tupD y]).depth = 2 := by
    show max (tupD x).depth (max (tupD y).depth 0) + 1 = 2
    rw [e2, e2]
    rfl
  rw [e1, e3]
  rfl
theorem eqv_pair (x y : List Int) : PyData.eqv (pairD x y) (pairD x y) = true := by
  show (PyData.eqv (tupD x) (tupD x) && (PyData.eqv (tupD y) (tupD y) && true)) = true
  have e : ∀ z, PyData.eqv (tupD z) (tupD z) = true := fun z => (eqv_tup z z).trans (decide_eq_true rfl)
  rw [e, e]
  rfl
theorem div2 {a b : Nat} (h : a + b + a = n) : ((n : Int) - (b : Int)) / 2 = (a : Int) := by omega
theorem nodiff {α : Type} [DecidableEq α] (x : α) : (!decide (x = x)) = false := by simp
def spBetween2 (K : PySem.W.Frag) : Sp := fun vs H Q _ => ∃ (n : Int) (a b : Addr) (ns bs : List Int), vs = [.int n, .ref a, .ref b] ∧ 1 ≤ n ∧ n ≤ 5 ∧ SqT K H a (ns.map V.int) ∧ Wd n ns ∧ ns.length ≤ 200 ∧ SqT K H b (bs.map V.int) ∧ Wd n bs ∧ bs.length ≤ 200 ∧
  ∀ H' v, Same H H' → ((v = .non ∧ ∀ r q, Rg.RingW ns r → Rg.RingW bs q → r ≠ q) ∨ ∃ p ps, v = .ref p ∧ SqT K H' p (ps.map V.int) ∧ Wd n ps ∧ ps.length ≤ ns.length + bs.length ∧ Fr.red (ps ++ ns ++ Fr.opp ps) = bs ∧ ∃ r, Rg.RingW ns r ∧ Rg.RingW bs r) → Q v H'
def spRight : Sp := fun vs H Q _ => ∃ S : Addr, vs = [.ref S] ∧ Sk H (some S) ∧ ∀ H', Rs (some S) H H' → Q (.bl true) H'
theorem ok__law_right {f : Addr} {fd : FuncData} (F : Fun K "_law_right" "_law_right" st__law_right f fd) (T : Txt K mg) : FnOk P w K mg base CX0 7 f fd ["sack"] spRight := by
  have c__law_drawn : Cl P w K mg base 1 "_law_drawn" spDrawn := cl__law_drawn T
  have c__law_bare : Cl P w K mg base 1 "_law_bare" (spLBare K) := cl__law_bare T
  have c__law_back : Cl P w K mg base 1 "_law_back" (spOpp K) := cl__law_back T
  have c__law_word : Cl P w K mg base 2 "_law_word" (spWord K) := cl__law_word T
  have c__law_core : Cl P w K mg base 1 "_law_core" (spLCore K) := cl__law_core T
  have c__law_ring : Cl P w K mg base 2 "_law_ring" (spLRing K) := cl__law_ring T
  have c__law_is_due : Cl P w K mg base 2 "_law_is_due" (spIsDue K) := cl__law_is_due T
  have c__law_near : Cl P w K mg base 3 "_law_near" (spNear K) := cl__law_near T
  have c_core : Cl P w K mg base 6 "core" (spCore K) := cl_core T
  have c_ring : Cl P w K mg base 6 "ring" (spRing K) := cl_ring T
  have c_is_ring : Cl P w K mg base 4 "is_ring" (spIsRing K) := cl_is_ring T
  have c_turned : Cl P w K mg base 6 "turned" (spTurned K) := cl_turned T
  have c_are_alike : Cl P w K mg base 6 "are_alike" (spAlike K) := cl_are_alike T
  have c_between : Cl P w K mg base 6 "between" (spBetween2 K) := (cl_between T).imp fun vs H Q E ⟨n, a, b, ns, bs, h1, h2, h3, h4, h5, h6, h7, h8, h9, k⟩ => ⟨n, a, b, ns, bs, h1, h2, h3, h4, h5, h6, h7, h8, h9, fun H' e z => k _ _ e (.inl ⟨rfl, z⟩), fun H' p ps e z1 z2 z3 z4 z5 => k _ _ e (.inr ⟨p, ps, rfl, z1, z2, z3, z4, z5⟩)⟩
  have c_is_between : Cl P w K mg base 6 "is_between" (spIsBetween K) := cl_is_between T
  refine F.ok sc__law_right (fun vs H Q E h => ?_) (fun cdv A outer s H vs Q E hr h => ?_)
  · obtain ⟨S, rfl, _⟩ := h
    rfl
  · obtain ⟨S, rfl, hS, k⟩ := h
    refine ⟨_, (pss_cons (ps_set (i := 1) sc__law_right.nd rfl (Or.inl rfl) (pe_op op_add pe_int (pe_f c__law_drawn hr (by decide) rfl (pa_cons (pv 0) (pa_cons pe_int pa_nil))))) (pss_cons (ps_par (i := 2) (j := 3) rfl sc__law_right.nd rfl rfl (by decide) rfl rfl (pa_cons (pe_f c__law_word hr (by decide) rfl (pa_cons (pv 0) (pa_cons (pv 1) (pa_cons pe_int pa_nil)))) (pa_cons (pe_f c__law_word hr (by decide) rfl (pa_cons (pv 0) (pa_cons (pv 1) (pa_cons pe_int pa_nil)))) pa_nil)) (by with_unfolding_all rfl)) (pss_cons (ps_set (i := 4) sc__law_right.nd rfl (Or.inl rfl) (pe_ifExp (pt_cmpR op_gt (pe_f c__law_drawn hr (by decide) rfl (pa_cons (pv 0) (pa_cons pe_int pa_nil))) pe_int (nomark _)) (pe_f c__law_bare hr (by decide) rfl (pa_cons (pe_op (kop_catA (K := K)) (pe_op (kop_catA (K := K)) (pv 3) (pv 2)) (pe_f c__law_back hr (by decide) rfl (pa_cons (pv 3) pa_nil))) pa_nil)) (pe_f c__law_word hr (by decide) rfl (pa_cons (pv 0) (pa_cons (pv 1) (pa_cons pe_int pa_nil)))))) (pss_cons (ps_set (i := 5) sc__law_right.nd rfl (Or.inl rfl) (pe_f c__law_core hr (by decide) rfl (pa_cons (pv 2) pa_nil))) (pss_cons (ps_set (i := 6) sc__law_right.nd rfl (Or.inl rfl) (pe_slice (ksl_tupA (K := K)) (pv 2) po_none (po_some (pe_op op_fdivW (pe_op op_sub (pe_callB (kcall_len (K := K)) (by rfl) T.n_len bo_len (pa_cons (pv 2) pa_nil)) (pe_callB (kcall_len (K := K)) (by rfl) T.n_len bo_len (pa_cons (pv 5) pa_nil))) pe_int)))) (pss_cons (ps_if (PW.pt (pw_or (pt_cmpR (kop_neD (K := K) hr.units) (pe_f c_core hr (by decide) rfl (pa_cons (pv 1) (pa_cons (pv 2) pa_nil))) (pe_tup (pa_cons (pv 6) (pa_cons (pv 5) pa_nil))) (nomark _)) (pw_or1 (pt_cmpR (kop_neD (K := K) hr.units) (pe_f c_ring hr (by decide) rfl (pa_cons (pv 1) (pa_cons (pv 2) pa_nil))) (pe_f c__law_ring hr (by decide) rfl (pa_cons (pv 2) pa_nil)) (nomark _))))) (pss_one (ps_ret pe_bl)) pss_nil) (pss_cons (ps_if (pt_not (pt_val (pe_f c_is_ring hr (by decide) rfl (pa_cons (pv 1) (pa_cons (pe_f c__law_ring hr (by decide) rfl (pa_cons (pv 2) pa_nil)) pa_nil))))) (pss_one (ps_ret pe_bl)) pss_nil) (pss_cons (ps_set (i := 7) sc__law_right.nd rfl (Or.inl rfl) (pe_f c_turned hr (by decide) rfl (pa_cons (pv 1) (pa_cons (pv 2) (pa_cons (pv 3) pa_nil))))) (pss_cons (ps_if (PW.pt (pw_or (pt_cmpR (kop_neD (K := K) hr.units) (pv 7) (pe_f c__law_bare hr (by decide) rfl (pa_cons (pe_op (kop_catA (K := K)) (pe_op (kop_catA (K := K)) (pv 3) (pv 2)) (pe_f c__law_back hr (by decide) rfl (pa_cons (pv 3) pa_nil))) pa_nil)) (nomark _)) (pw_or1 (pt_cmpR (kop_neD (K := K) hr.units) (pe_f c_ring hr (by decide) rfl (pa_cons (pv 1) (pa_cons (pv 7) pa_nil))) (pe_f c__law_ring hr (by decide) rfl (pa_cons (pv 2) pa_nil)) (nomark _))))) (pss_one (ps_ret pe_bl)) pss_nil) (pss_cons (ps_if (pt_cmpR op_ne (pe_f c_is_ring hr (by decide) rfl (pa_cons (pv 1) (pa_cons (pv 2) pa_nil))) (pe_cmpR (kop_eqD (K := K) hr.units) (pe_f c__law_ring hr (by decide) rfl (pa_cons (pv 2) pa_nil)) (pv 2) (nomark _)) (nomark _)) (pss_one (ps_ret pe_bl)) pss_nil) (pss_cons (ps_par (i := 8) (j := 9) rfl sc__law_right.nd rfl rfl (by decide) rfl rfl (pa_cons (pe_cmpR (kop_eqD (K := K) hr.units) (pe_f c__law_ring hr (by decide) rfl (pa_cons (pv 2) pa_nil)) (pe_f c__law_ring hr (by decide) rfl (pa_cons (pv 4) pa_nil)) (nomark _)) (pa_cons (pe_f c_between hr (by decide) rfl (pa_cons (pv 1) (pa_cons (pv 2) (pa_cons (pv 4) pa_nil)))) pa_nil)) (by with_unfolding_all rfl)) (pss_cons (ps_if (PW.pt (pw_or (pt_cmpR op_ne (pe_f c_are_alike hr (by decide) rfl (pa_cons (pv 1) (pa_cons (pv 2) (pa_cons (pv 4) pa_nil)))) (pv 8) (nomark _)) (pw_or1 (pt_cmpR op_eq (pe_cmpR op_isN (pv 9) pe_non (nomark _)) (pv 8) (nomark _))))) (pss_one (ps_ret pe_bl)) pss_nil) (pss_cons (ps_if (PW.pt (pw_and (pt_cmpR op_notN (pv 9) pe_non (nomark _)) (pw_and1 (pt_not (pt_val (pe_f c__law_is_due hr (by decide) rfl (pa_cons (pv 1) (pa_cons (pv 2) (pa_cons (pv 4) (pa_cons (pv 9) pa_nil)))))))))) (pss_one (ps_ret pe_bl)) pss_nil) (pss_cons (ps_for PassesOwn.never rfl (kpi_list (K := K) (pe_f c__law_near hr (by decide) rfl (pa_cons (pv 0) (pa_cons (pv 1) (pa_cons (pv 2) (pa_cons (pv 4) (pa_cons (pe_ifExp (pt_cmpR op_notN (pv 9) pe_non (nomark _)) (pv 9) (pv 3)) pa_nil))))))) (pg_name (i := 10) sc__law_right.nd rfl (Or.inl rfl)) (pss_one (ps_if (pt_cmpR op_ne (pe_f c_is_between hr (by decide) rfl (pa_cons (pv 1) (pa_cons (pv 2) (pa_cons (pv 4) (pa_cons (pv 10) pa_nil))))) (pe_f c__law_is_due hr (by decide) rfl (pa_cons (pv 1) (pa_cons (pv 2) (pa_cons (pv 4) (pa_cons (pv 10) pa_nil))))) (nomark _)) (pss_one (ps_ret pe_bl)) pss_nil))) (pss_cons (ps_if (pt_cmpR op_ne (pe_f c_are_alike hr (by decide) rfl (pa_cons (pv 1) (pa_cons (pv 2) (pa_cons (pe_f c__law_back hr (by decide) rfl (pa_cons (pv 2) pa_nil)) pa_nil)))) (pe_cmpR (kop_eqD (K := K) hr.units) (pv 2) (pe_tup pa_nil) (nomark _)) (nomark _)) (pss_one (ps_ret pe_bl)) pss_nil) (pss_one (ps_ret (pe_cmpR (kop_eqD (K := K) hr.units) (pe_f c_ring hr (by decide) rfl (pa_cons (pv 1) (pa_cons (pe_f c__law_bare hr (by decide) rfl (pa_cons (pe_op (kop_catA (K := K)) (pe_op (kop_catA (K := K)) (pv 2) (pv 2)) (pv 2)) pa_nil)) pa_nil))) (pe_op (kop_repA (K := K)) (pe_f c__law_ring hr (by decide) rfl (pa_cons (pv 2) pa_nil)) pe_int) (nomark _))))))))))))))))))), ?_⟩
    refine ⟨.ref S, rfl, S, _, rfl, hS, by decide, by decide, fun H1 r r1 a0 a1 => ?_⟩
    obtain ⟨n, hn⟩ : ∃ n : Int, 1 + r = n := ⟨_, rfl⟩
    refine add_is hn ?_
    have n1 : 1 ≤ n := by omega
    have n5 : n ≤ 5 := by omega
    refine ⟨.ref S, rfl, .int n, rfl, S, n, 6, rfl, r1.s1, n1, n5, by decide, by decide, fun H2 pa one r2 ha wa la => ⟨.ref S, rfl, .int n, rfl, S, n, 4, rfl, r2.s1, n1, n5, by decide, by decide, fun H3 pb by_ r3 hb wb lb => ⟨_, _, rfl, ?_⟩⟩⟩
    have ha := r3.tup ha
    have rb := (r1.tr r2).tr r3
    clear hn a0 a1 r1 r2 r3
    -- other
    dsimp only
    refine asg_join (fun v H4 => ∃ po other, v = .ref po ∧ Rs (some S) H3 H4 ∧ SqT K H4 po (other.map V.int) ∧ Wd n other ∧ other.length ≤ 14) (fun Q' q' => ?_) fun v H4 w4 => ?_
    · refine ⟨.ref S, rfl, S, _, rfl, rb.s1, by decide, by decide, fun H4 x r4 b0 b1 => ⟨_, _, rfl, rfl, _, rfl, ite2 (fun h1 => ?_) fun h1 => ?_⟩⟩
      · have ha := r4.tup ha
        have hb := r4.tup hb
        refine ⟨.ref pb, rfl, .ref pa, rfl, cat_ints hb ha (by omega) fun G1 p1 g1 h1 => ⟨.ref pb, rfl, pb, by_, rfl, same_tup g1 hb, by omega, fun G2 p2 g2 h2 => cat_ints (same_tup g2 h1) h2 (by rw [List.length_append, Fr.opp_len]; omega) fun G3 p3 g3 h3 => ⟨p3, _, rfl, .inr h3, by simp only [List.length_append, Fr.opp_len]; omega, fun G4 p4 g4 h4 => ?_⟩⟩⟩
        refine q' _ _ ⟨p4, _, rfl, r4.tr (.same r4.s1 (Same.trans (Same.trans (Same.trans g1 g2) g3) g4)), h4, wd_red (lt_app (lt_app wb.lt wa.lt) (lt_opp wb.lt)), ?_⟩
        refine Nat.le_trans (len_red _) ?_
        simp only [List.length_append, Fr.opp_len]
        omega
      · refine ⟨.ref S, rfl, .int n, rfl, S, n, 5, rfl, r4.s1, n1, n5, by decide, by decide, fun G1 p1 ns r5 h1 w1 l1 => q' _ _ ⟨p1, ns, rfl, r4.tr r5, h1, w1, by omega⟩⟩
    obtain ⟨po, other, rfl, r4, ho, wo, lo⟩ := w4
    have ha := r4.tup ha
    have hb := r4.tup hb
    have rb := rb.tr r4
    clear r4
    -- inner, ahead
    refine ⟨.ref pa, rfl, n, pa, one, rfl, ha, wa, by omega, fun H5 pi c m e5 hs hm => ?_⟩
    have ll := congrArg List.length hs.1
    rw [List.length_append, List.length_append, Fr.opp_len] at ll
    refine ⟨.ref pa, rfl, nopart ⟨.ref pa, rfl, pa, _, rfl, .inr (same_tup e5 ha), .ref pi, rfl, pi, _, rfl, .inr hm, _, _, rfl, rfl, _, _, rfl, rfl, ⟨by decide, by decide +kernel⟩, ((c.length : Nat) : Int), ?_, ?_⟩⟩
    · rw [List.length_map, List.length_map]
      exact congrArg V.int (div2 ll.symm)
    refine sl_ints (same_tup e5 ha) fun H6 pc e6 hc => ?_
    rw [cutI_to, show one.take c.length = c by rw [hs.1, List.append_assoc, List.take_left]] at hc
    have e56 := Same.trans e5 e6
    have ha := same_tup e56 ha
    have hb := same_tup e56 hb
    have ho := same_tup e56 ho
    have hm := same_tup e6 hm
    have rb := rb.tr (.same rb.s1 e56)
    clear e5 e6 e56
    -- the core
    refine ⟨.int n, rfl, .ref pa, rfl, n, pa, one, rfl, n1, n5, ha, wa, by omega, fun G1 q1 qc qm c' m' g1 hs' h1 hc1 hm1 => ?_⟩
    obtain ⟨rfl, rfl⟩ := Rg.spl_uniq hs (spl_rg hs')
    refine ⟨.ref pc, rfl, .ref pi, rfl, by show 2 ≤ sizeLine; decide, fun t ht => ⟨pairD c m, pairD c m, ?_, ?_, shaped_pair _ _, shaped_pair _ _, _, rfl, ?_⟩⟩
    · exact dp_pair (same_tup (new_same ht) h1) (same_tup (new_same ht) hc1) (same_tup (new_same ht) hm1)
    · exact dp_pair (tup_of upd_same) (same_tup (new_same ht) (same_tup g1 hc)) (same_tup (new_same ht) (same_tup g1 hm))
    rw [eqv_pair]
    have g := Same.trans g1 (new_same (o := .tup [.ref pc, .ref pi]) ht)
    generalize upd G1 t (.tup [.ref pc, .ref pi]) = G2 at g
    have ha := same_tup g ha
    have hb := same_tup g hb
    have ho := same_tup g ho
    have rb := rb.tr (.same rb.s1 g)
    clear g g1 h1 hc1 hm1 ht hs' hc hm
    -- the ring
    refine ⟨.int n, rfl, .ref pa, rfl, n, pa, one, rfl, n1, n5, ha, wa, by omega, fun G3 q3 r g3 hr1 h3 => ⟨.ref pa, rfl, n, pa, one, rfl, same_tup g3 ha, wa, by omega, fun G4 q4 r4 g4 hr4 h4 => ne_tup (same_tup g4 h3) h4 ⟨_, rfl, ?_⟩⟩⟩
    obtain rfl := Rg.ringw_uniq hr1 hr4
    rw [nodiff]
    obtain ⟨rnf, rself, rmem, rlen⟩ := Rg.ringw_self wa.nf hr1
    have wr : Wd n r := ⟨fun i hi => wa.lt i (rmem i hi), rnf⟩
    have g := Same.trans g3 g4
    refine ⟨.int n, rfl, .ref pa, rfl, n, pa, one, rfl, same_tup g ha, wa, by omega, fun G5 q5 r5 g5 hr5 h5 => ?_⟩
    obtain rfl := Rg.ringw_uniq hr1 hr5
    refine ⟨n, q5, r, rfl, n1, n5, h5, wr, by omega, fun G6 r6 g6 hr6 => ⟨_, rfl, ?_⟩⟩
    obtain rfl := Rg.ringw_uniq rself hr6
    rw [decide_eq_true (rfl : r = r)]
    have g := Same.trans (Same.trans g g5) g6
    have ha := same_tup g ha
    have hb := same_tup g hb
    have ho := same_tup g ho
    have rb := rb.tr (.same rb.s1 g)
    clear g g3 g4 g5 g6 h3 h4 h5
    -- made
    have wmade := wd_red (lt_app (lt_app wb.lt wa.lt) (lt_opp wb.lt))
    have lmade := len_red (by_ ++ one ++ Fr.opp by_)
    rw [List.length_append, List.length_append, Fr.opp_len] at lmade
    have rmade := Rg.ringw_turn wa.nf hr1 by_
    refine ⟨.int n, rfl, .ref pa, rfl, .ref pb, rfl, n, pa, pb, one, by_, rfl, n1, n5, ha, wa, by omega, hb, wb, by omega, fun G1 pm g1 hm => ?_⟩
    refine ⟨.ref pm, rfl, .ref pb, rfl, .ref pa, rfl, cat_ints (same_tup g1 hb) (same_tup g1 ha) (by omega) fun G2 p2 g2 h2 => ⟨.ref pb, rfl, pb, by_, rfl, same_tup (Same.trans g1 g2) hb, by omega, fun G3 p3 g3 h3 => cat_ints (same_tup g3 h2) h3 (by rw [List.length_append, Fr.opp_len]; omega) fun G4 p4 g4 h4 => ⟨p4, _, rfl, .inr h4, by simp only [List.length_append, Fr.opp_len]; omega, fun G5 p5 g5 h5 => ne_tup (same_tup (Same.trans (Same.trans (Same.trans g2 g3) g4) g5) hm) h5 ⟨_, rfl, ?_⟩⟩⟩⟩
    rw [nodiff]
    have g := Same.trans (Same.trans (Same.trans g2 g3) g4) g5
    have hm := same_tup g hm
    have g := Same.trans g1 g
    have ha := same_tup g ha
    have hb := same_tup g hb
    have ho := same_tup g ho
    have rb := rb.tr (.same rb.s1 g)
    clear g g1 g2 g3 g4 g5 h2 h3 h4 h5
    refine ⟨.int n, rfl, .ref pm, rfl, n, pm, _, rfl, n1, n5, hm, wmade, by omega, fun G3 q3 r3 g3 hr3 h3 => ⟨.ref pa, rfl, n, pa, one, rfl, same_tup g3 ha, wa, by omega, fun G4 q4 r4 g4 hr4 h4 => ne_tup (same_tup g4 h3) h4 ⟨_, rfl, ?_⟩⟩⟩
    obtain rfl := Rg.ringw_uniq hr1 hr4
    obtain rfl := Rg.ringw_uniq rmade hr3
    rw [nodiff]
    have g := Same.trans g3 g4
    have ha := same_tup g ha
    have hb := same_tup g hb
    have ho := same_tup g ho
    have rb := rb.tr (.same rb.s1 g)
    clear g g3 g4 h3 h4 hm
    refine ⟨.int n, rfl, .ref pa, rfl, n, pa, one, rfl, n1, n5, ha, wa, by omega, fun G1 r3 g1 hr3 => ⟨.ref pa, rfl, n, pa, one, rfl, same_tup g1 ha, wa, by omega, fun G2 q2 r4 g2 hr4 h2 => ⟨.ref pa, rfl, eq_tup h2 (same_tup (Same.trans g1 g2) ha) ⟨rfl, _, rfl, ?_⟩⟩⟩⟩
    obtain rfl := Rg.ringw_uniq hr1 hr4
    obtain rfl := Rg.ringw_uniq hr1 hr3
    rw [nodiff]
    have g := Same.trans g1 g2
    have ha := same_tup g ha
    have hb := same_tup g hb
    have ho := same_tup g ho
    have rb := rb.tr (.same rb.s1 g)
    clear g g1 g2 h2
    -- due, told
    refine ⟨.ref pa, rfl, n, pa, one, rfl, ha, wa, by omega, fun G1 q1 r4 g1 hr4 h1 => ⟨.ref po, rfl, n, po, other, rfl, same_tup g1 ho, wo, by omega, fun G2 q2 ro g2 hro h2 => eq_tup (same_tup g2 h1) h2 ?_⟩⟩
    obtain rfl := Rg.ringw_uniq hr1 hr4
    have g := Same.trans g1 g2
    have ha := same_tup g ha
    have hb := same_tup g hb
    have ho := same_tup g ho
    have rb := rb.tr (.same rb.s1 g)
    clear g g1 g2 h1 h2
    refine ⟨.int n, rfl, .ref pa, rfl, .ref po, rfl, n, pa, po, one, other, rfl, n1, n5, ha, wa, by omega, ho, wo, by omega, fun G1 v g1 hv => ⟨_, _, rfl, ?_⟩⟩
    have ha := same_tup g1 ha
    have hb := same_tup g1 hb
    have ho := same_tup g1 ho
    have rb := rb.tr (.same rb.s1 g1)
    have hv : (v = .non ∧ r ≠ ro) ∨ (v ≠ .non ∧ r = ro ∧ ∃ p ps, v = .ref p ∧ SqT K G1 p (ps.map V.int) ∧ Wd n ps ∧ ps.length ≤ 20 ∧ Fr.red (ps ++ one ++ Fr.opp ps) = other) := by
      rcases hv with ⟨z1, z2⟩ | ⟨p, ps, rfl, z1, z2, z3, z4, r', z5, z6⟩
      · exact .inl ⟨z1, z2 r ro hr1 hro⟩
      · exact .inr ⟨fun q => (nomatch q), (Rg.ringw_uniq hr1 z5).trans (Rg.ringw_uniq z6 hro), p, ps, rfl, z1, z2, by omega, z4⟩
    have hdue : decide (v = .non) = !decide (r = ro) := by
      rcases hv with ⟨z1, z2⟩ | ⟨z1, z2, _⟩
      · rw [decide_eq_true z1, decide_eq_false z2]; rfl
      · rw [decide_eq_false z1, decide_eq_true z2]; rfl
    clear g1
    refine ⟨.int n, rfl, .ref pa, rfl, .ref po, rfl, n, pa, po, one, other, rfl, n1, n5, ha, wa, by omega, ho, wo, by omega, fun G2 r3 r4 g2 hr3 hr4 => ⟨_, rfl, rfl, _, rfl, ?_⟩⟩
    obtain rfl := Rg.ringw_uniq hr1 hr3
    obtain rfl := Rg.ringw_uniq hro hr4
    rw [nodiff]
    refine ⟨v, rfl, rfl, _, rfl, rfl, _, rfl, ?_⟩
    rw [hdue, show decide (V.bl (!decide (r = ro)) = V.bl (decide (r = ro))) = false by cases decide (r = ro) <;> rfl]
    dsimp only
    rw [if_neg Bool.false_ne_true]
    unfold tNext
    dsimp only
    refine ifs_join (fun b H' => b = false ∧ Same G2 H') (fun Q' q' => ?_) fun b G3 hb3 => ?_
    · refine ⟨v, rfl, rfl, _, rfl, ?_⟩
      rcases hv with ⟨rfl, _⟩ | ⟨z1, _, p, ps, rfl, z2, z3, z4, z5⟩
      · exact q' false G2 ⟨rfl, Same.refl _⟩
      · refine ⟨.int n, rfl, .ref pa, rfl, .ref po, rfl, .ref p, rfl, n, pa, po, one, other, .ref p, some (ps.map some), rfl, same_tup g2 ha, by omega, same_tup g2 ho, va_ints (same_tup g2 z2), fun G3 g3 => ⟨_, rfl, ?_⟩⟩
        have ed : dueV n one other (some (ps.map some)) = true := by
          show (bareB n 400 (ps.map some) && decide (Fr.red (intsOf (ps.map some) ++ one ++ Fr.opp (intsOf (ps.map some))) = other)) = true
          rw [intsOf_some, bare_wd z3 (by omega), decide_eq_true z5]
          rfl
        rw [ed]
        exact q' false G3 ⟨rfl, g3⟩
    obtain ⟨rfl, g3⟩ := hb3
    rw [if_neg Bool.false_ne_true]
    have g := Same.trans g2 g3
    have ha := same_tup g ha
    have hb := same_tup g hb
    have ho := same_tup g ho
    have rb := rb.tr (.same rb.s1 g)
    refine ⟨.ref S, rfl, .int n, rfl, .ref pa, rfl, .ref po, rfl, v, rfl, rfl, _, rfl, ?_⟩
    have told : ∃ (pt : Addr) (ts : List Int), (if (!decide (v = .non)) = true then v else V.ref pb) = .ref pt ∧ SqT K G3 pt (ts.map V.int) ∧ ts.length ≤ 20 := by
      rcases hv with ⟨rfl, _⟩ | ⟨z1, _, p, ps, rfl, z2, z3, z4, z5⟩
      · exact ⟨pb, by_, rfl, hb, by omega⟩
      · exact ⟨p, ps, rfl, same_tup g z2, z4⟩
    obtain ⟨pt, ts, eu, ht, lt⟩ := told
    refine told_if _ rfl rfl eu ?_
    refine ⟨S, pa, po, pt, n, one, other, ts, rfl, rb.s1, n1, n5, ha, wa, by omega, ho, by omega, ht, by omega, fun H5 pl xs r5 d5 _ lx hx => ⟨pl, rfl, ⟨_, lst_of d5⟩, for_list (K := K) (a := pl) (xs := xs) (fun i σ H' => Same H5 H' ∧ ∃ x, σ = [some (.ref S), some (.int n), some (.ref pa), some (.ref pb), some (.ref po), some (.ref pi), some (.ref pc), some (.ref pm), some (.bl (decide (r = ro))), some v, x]) ⟨Same.refl _, none, rfl⟩ (fun i σ H' _ q => lst_of (q.1 _ _ d5)) (fun i x σ H' hxi q => ?_) fun σ H' q => ?_⟩⟩
    · obtain ⟨e1, y, rfl⟩ := q
      obtain ⟨o, hvo⟩ := hx x (List.mem_of_getElem? hxi)
      have ha := same_tup e1 (r5.tup ha)
      have ho := same_tup e1 (r5.tup ho)
      refine ⟨.int n, rfl, .ref pa, rfl, .ref po, rfl, x, rfl, n, pa, po, one, other, x, o, rfl, n1, n5, ha, wa, by omega, ho, wo, by omega, va_same e1 hvo, fun G4 g4 => ?_⟩
      refine ⟨.int n, rfl, .ref pa, rfl, .ref po, rfl, x, rfl, n, pa, po, one, other, x, o, rfl, same_tup g4 ha, by omega, same_tup g4 ho, va_same (Same.trans e1 g4) hvo, fun G5 g5 => ⟨rfl, _, rfl, ?_⟩⟩
      rw [nodiff]
      exact ⟨Same.trans (Same.trans e1 g4) g5, _, rfl⟩
    · obtain ⟨e1, y, rfl⟩ := q
      have ha := same_tup e1 (r5.tup ha)
      have rb := (rb.tr r5).tr (.same r5.s1 e1)
      refine ⟨.int n, rfl, .ref pa, rfl, .ref pa, rfl, pa, one, rfl, ha, by omega, fun G4 q4 g4 h4 => ⟨n, pa, q4, one, Fr.opp one, rfl, n1, n5, same_tup g4 ha, wa, by omega, h4, ⟨lt_opp wa.lt, Fr.nf_opp wa.nf⟩, by rw [Fr.opp_len]; omega, fun G5 r6 r7 g5 hr6 hr7 => ?_⟩⟩
      obtain rfl := Rg.ringw_uniq hr1 hr6
      refine ⟨.ref pa, rfl, Nat.zero_le _, fun z hz => eq_tup (ms := []) (same_tup (Same.trans (Same.trans g4 g5) (new_same hz)) ha) (tup_of upd_same) ⟨rfl, _, rfl, ?_⟩⟩
      have hd : decide (r = r7) = decide (one = []) := by
        by_cases q : one = []
        · subst q
          rw [decide_eq_true (rfl : ([] : List Int) = [])]
          exact decide_eq_true (Rg.ringw_uniq hr1 hr7)
        · rw [decide_eq_false q]
          refine decide_eq_false fun z => q (Rg.ringw_back wa.nf (fun e he => (wa.lt e he).1) hr1 (z ▸ hr7))
      rw [hd, nodiff]
      have g := Same.trans (Same.trans g4 g5) (new_same (o := .tup []) hz)
      generalize upd G5 z (.tup []) = G6 at g
      have ha := same_tup g ha
      have rb := rb.tr (.same rb.s1 g)
      have w3 : one ++ one ++ one = Fr.rep one 3 := by
        show _ = [] ++ one ++ one ++ one
        rw [List.nil_append]
      have l3 := len_red (one ++ one ++ one)
      rw [List.length_append, List.length_append] at l3
      refine ⟨.int n, rfl, .ref pa, rfl, .ref pa, rfl, cat_ints ha ha (by omega) fun G7 p7 g7 h7 => ⟨.ref pa, rfl, cat_ints h7 (same_tup g7 ha) (by rw [List.length_append]; omega) fun G8 p8 g8 h8 => ⟨p8, _, rfl, .inr h8, by simp only [List.length_append]; omega, fun G9 p9 g9 h9 => ?_⟩⟩⟩
      refine ⟨n, p9, _, rfl, n1, n5, h9, wd_red (lt_app (lt_app wa.lt wa.lt) wa.lt), by omega, fun G10 p10 r10 g10 hr10 h10 => ?_⟩
      have g79 := Same.trans (Same.trans (Same.trans g7 g8) g9) g10
      refine ⟨.ref pa, rfl, n, pa, one, rfl, same_tup g79 ha, wa, by omega, fun G11 p11 r11 g11 hr11 h11 => c_part (rep_ints h11 (by decide) (by decide) (by have := Rg.ringw_uniq hr1 hr11; rw [← this]; omega) fun G12 p12 g12 h12 => eq_tup (same_tup (Same.trans g11 g12) h10) h12 ?_)⟩
      obtain rfl := Rg.ringw_uniq hr1 hr11
      rw [w3] at hr10
      obtain rfl := Rg.ringw_uniq (Rg.ringw_rep wa.nf hr1 2) hr10
      rw [show decide (Fr.rep r (2 + 1) = Fr.rep r (Int.toNat 3)) = true from decide_eq_true rfl]
      exact k _ (rb.tr (.same rb.s1 (Same.trans (Same.trans g79 g11) g12)))
theorem cl__law_right (T : Txt K mg) : Cl P w K mg base 7 "_law_right" spRight := by
  obtain ⟨f, fd, F, hm, hb⟩ := T.f__law_right
  exact cl_of (ok__law_right F T) hm F.kp hb
def spLaw (K : PySem.W.Frag) : Sp := fun vs H Q _ => ∃ (a : Addr) (ns : List Int), vs = [.ref a] ∧ SqL K H a (ns.map V.int) ∧ ns.length ≤ 63 ∧ ∀ H', Q (.bl true) H'
theorem wd_dec {n : Int} {ns : List Int} (h : (ns.all fun i => decide (i ≠ 0) && decide (-n ≤ i) && decide (i ≤ n)) = true) (h2 : nfB ns = true) : Wd n ns := ⟨fun i hi => by
  have := List.all_eq_true.mp h i hi
  rw [Bool.and_eq_true, Bool.and_eq_true] at this
  exact ⟨of_decide_eq_true this.1.1, of_decide_eq_true this.1.2, of_decide_eq_true this.2⟩, nfB_iff.mp h2⟩
theorem cr_by {m : List Int} (x y : Int) (hx : m.getLast? = some x) (hy : m.head? = some y) (h : x ≠ -y) : Rg.Cr m := ⟨fun q => (by rw [q] at hx; cases hx), fun u v hu hv => by
  rw [hx] at hu
  rw [hy] at hv
  cases hu
  cases hv
  exact h⟩
theorem ring_by {m r : List Int} (k : Nat) (hk : k < m.length) (h : ∀ t, t < m.length → HT.lexLt (Rg.rot m t) (Rg.rot m k) = false) (e : Rg.rot m k = r) : Rg.Ring m r := e ▸ Rg.ring_rot (Nat.le_of_lt hk) (Rg.least_lex hk h)
section
variable {H : Hp} {σ : L2.St}
theorem es_core {n : Int} {ns c m : List Int} {te : TE} (h : EvS te σ H (IsI K ns)) (n1 : 1 ≤ n) (n5 : n ≤ 5) (hw : Wd n ns) (hl : ns.length ≤ 200) (hs : Rg.Spl ns c m) : EvS (tFn (spCore K) (tCons (tC (.int n)) (tCons te tNil))) σ H (IsD K (pairD c m)) := fun H1 e Q q =>
  h H1 e _ fun v H2 e2 ⟨a, ev, ha⟩ => ⟨n, a, ns, by rw [ev], n1, n5, ha, hw, hl, fun H' p pc pm c' m' e3 s' hp hc hm => by
    obtain ⟨rfl, rfl⟩ := Rg.spl_uniq hs (spl_rg s')
    exact q _ _ (Same.trans e2 e3) (dp_pair hp hc hm)⟩
theorem es_ring {n : Int} {ns r : List Int} {te : TE} (h : EvS te σ H (IsI K ns)) (n1 : 1 ≤ n) (n5 : n ≤ 5) (hw : Wd n ns) (hl : ns.length ≤ 200) (hs : Rg.RingW ns r) : EvS (tFn (spRing K) (tCons (tC (.int n)) (tCons te tNil))) σ H (IsD K (tupD r)) := fun H1 e Q q =>
  h H1 e _ fun v H2 e2 ⟨a, ev, ha⟩ => ⟨n, a, ns, by rw [ev], n1, n5, ha, hw, hl, fun H' p r' e3 s' hp => by
    obtain rfl := Rg.ringw_uniq hs s'
    exact q _ _ (Same.trans e2 e3) (dp_tup hp)⟩
theorem es_isb {n : Int} {ns bs ts : List Int} {ta tb tv : TE} {b : Bool} (h : EvS ta σ H (IsI K ns)) (g : EvS tb σ H (IsI K bs)) (u : EvS tv σ H (IsI K ts)) (n1 : 1 ≤ n) (n5 : n ≤ 5) (hw : Wd n ns) (hl : ns.length ≤ 200) (gw : Wd n bs) (gl : bs.length ≤ 200) (hb : dueV n ns bs (some (ts.map some)) = b) :
    EvS (tFn (spIsBetween K) (tCons (tC (.int n)) (tCons ta (tCons tb (tCons tv tNil))))) σ H (fun v _ => v = .bl b) := fun H1 e Q q =>
  h H1 e _ fun v H2 e2 ⟨a, ev, ha⟩ => g H2 (Same.trans e e2) _ fun v2 H3 e3 ⟨c, ev2, hc⟩ => u H3 (Same.trans (Same.trans e e2) e3) _ fun v3 H4 e4 ⟨d, ev3, hd⟩ => by
    subst ev ev2 ev3
    exact ⟨n, a, c, ns, bs, .ref d, some (ts.map some), rfl, n1, n5, same_tup (Same.trans e3 e4) ha, hw, hl, same_tup e4 hc, gw, gl, va_ints hd, fun H' e5 => q _ _ (Same.trans (Same.trans (Same.trans e2 e3) e4) e5) (by rw [hb])⟩
theorem es_alike {n : Int} {ns bs r s : List Int} {ta tb : TE} {b : Bool} (h : EvS ta σ H (IsI K ns)) (g : EvS tb σ H (IsI K bs)) (n1 : 1 ≤ n) (n5 : n ≤ 5) (hw : Wd n ns) (hl : ns.length ≤ 200) (gw : Wd n bs) (gl : bs.length ≤ 200) (hr : Rg.RingW ns r) (hs : Rg.RingW bs s) (hb : decide (r = s) = b) :
    EvS (tFn (spAlike K) (tCons (tC (.int n)) (tCons ta (tCons tb tNil)))) σ H (fun v _ => v = .bl b) := fun H1 e Q q =>
  h H1 e _ fun v H2 e2 ⟨a, ev, ha⟩ => g H2 (Same.trans e e2) _ fun v2 H3 e3 ⟨c, ev2, hc⟩ => by
    subst ev ev2
    exact ⟨n, a, c, ns, bs, rfl, n1, n5, same_tup e3 ha, hw, hl, hc, gw, gl, fun H' r' s' e4 hr' hs' => q _ _ (Same.trans (Same.trans e2 e3) e4) (by rw [← Rg.ringw_uniq hr hr', ← Rg.ringw_uniq hs hs', hb])⟩
theorem es_turned {n : Int} {ns bs : List Int} {ta tb : TE} (h : EvS ta σ H (IsI K ns)) (g : EvS tb σ H (IsI K bs)) (n1 : 1 ≤ n) (n5 : n ≤ 5) (hw : Wd n ns) (hl : ns.length ≤ 200) (gw : Wd n bs) (gl : bs.length ≤ 200) :
    EvS (tFn (spTurned K) (tCons (tC (.int n)) (tCons ta (tCons tb tNil)))) σ H (IsI K (Fr.red (bs ++ ns ++ Fr.opp bs))) := fun H1 e Q q =>
  h H1 e _ fun v H2 e2 ⟨a, ev, ha⟩ => g H2 (Same.trans e e2) _ fun v2 H3 e3 ⟨c, ev2, hc⟩ => by
    subst ev ev2
    exact ⟨n, a, c, ns, bs, rfl, n1, n5, same_tup e3 ha, hw, hl, hc, gw, gl, fun H' p e4 hp => q _ _ (Same.trans (Same.trans e2 e3) e4) ⟨p, rfl, hp⟩⟩
theorem es_rep {ns : List Int} {te : TE} (k : Int) (h : EvS te σ H (IsI K ns)) (k1 : 1 ≤ k) (k2 : k ≤ 1000) (hz : ns.length ≤ 1000) : EvS (tOp (rRepA K) te (tC (.int k))) σ H (IsI K (Fr.rep ns k.toNat)) := fun H1 e Q q =>
  h H1 e _ fun v H2 e2 ⟨a, ev, ha⟩ => by
    subst ev
    exact c_part (rep_ints ha k1 k2 hz fun H3 p e3 hp => q _ _ (Same.trans e2 e3) ⟨p, rfl, hp⟩)
theorem es_none {n : Int} {ns bs r s : List Int} {ta tb : TE} (h : EvS ta σ H (IsI K ns)) (g : EvS tb σ H (IsI K bs)) (n1 : 1 ≤ n) (n5 : n ≤ 5) (hw : Wd n ns) (hl : ns.length ≤ 200) (gw : Wd n bs) (gl : bs.length ≤ 200) (hr : Rg.RingW ns r) (hs : Rg.RingW bs s) (hd : r ≠ s) :
    EvS (tFn (spBetween2 K) (tCons (tC (.int n)) (tCons ta (tCons tb tNil)))) σ H (fun v _ => v = .non) := fun H1 e Q q =>
  h H1 e _ fun v H2 e2 ⟨a, ev, ha⟩ => g H2 (Same.trans e e2) _ fun v2 H3 e3 ⟨c, ev2, hc⟩ => by
    subst ev ev2
    refine ⟨n, a, c, ns, bs, rfl, n1, n5, same_tup e3 ha, hw, hl, hc, gw, gl, fun H' v e4 z => q _ _ (Same.trans (Same.trans e2 e3) e4) ?_⟩
    rcases z with z | ⟨p, ps, _, _, _, _, _, r', z1, z2⟩
    · exact z.1
    · exact absurd ((Rg.ringw_uniq hr z1).trans (Rg.ringw_uniq z2 hs)) hd
theorem i1 (a : Int) : EvS (tTup (tCons (tC (.int a)) tNil)) σ H (IsI K [a]) := es_row [a] (es_tup (edc (es_int a) ed0) (by show 1 ≤ 1000; decide))
theorem i0 : EvS (tTup tNil) σ H (IsI K []) := es_row [] (es_tup ed0 (by decide))
theorem i2 (a b : Int) : EvS (tTup (tCons (tC (.int a)) (tCons (tC (.int b)) tNil))) σ H (IsI K [a, b]) := es_row [a, b] (es_tup (edc (es_int a) (edc (es_int b) ed0)) (by show 2 ≤ 1000; decide))
theorem im (a : Int) : EvS (tTup (tCons (tUn (rU fun i => V.int (-i)) (tC (.int a))) tNil)) σ H (IsI K [-a]) := es_row [-a] (es_tup (edc (es_neg a) ed0) (by show 1 ≤ 1000; decide))
end
theorem ok_law {f : Addr} {fd : FuncData} (F : Fun K "law" "law" st_law f fd) (T : Txt K mg) : FnOk P w K mg base CX0 8 f fd ["script"] (spLaw K) := by
  have c__law_right : Cl P w K mg base 7 "_law_right" spRight := cl__law_right T
  have c__law_sack : Cl P w K mg base 1 "_law_sack" (spSack K) := cl__law_sack T
  have c_core : Cl P w K mg base 6 "core" (spCore K) := cl_core T
  have c_ring : Cl P w K mg base 6 "ring" (spRing K) := cl_ring T
  have c_turned : Cl P w K mg base 6 "turned" (spTurned K) := cl_turned T
  have c_are_alike : Cl P w K mg base 6 "are_alike" (spAlike K) := cl_are_alike T
  have c_between : Cl P w K mg base 6 "between" (spBetween2 K) := (cl_between T).imp fun vs H Q E ⟨n, a, b, ns, bs, h1, h2, h3, h4, h5, h6, h7, h8, h9, k⟩ => ⟨n, a, b, ns, bs, h1, h2, h3, h4, h5, h6, h7, h8, h9, fun H' e z => k _ _ e (.inl ⟨rfl, z⟩), fun H' p ps e z1 z2 z3 z4 z5 => k _ _ e (.inr ⟨p, ps, rfl, z1, z2, z3, z4, z5⟩)⟩
  have c_is_between : Cl P w K mg base 6 "is_between" (spIsBetween K) := cl_is_between T
  refine F.ok sc_law (fun vs H Q E h => ?_) (fun cdv A outer s H vs Q E hr h => ?_)
  · obtain ⟨a, ns, rfl, _⟩ := h
    rfl
  · obtain ⟨a, ns, rfl, h, hl, k⟩ := h
    refine ⟨_, (pss_cons (ps_for PassesOwn.never rfl (pi_range1 rfl T.n_range (pa_cons (pe_callB (call_max2 rfl) (by rfl) T.n_max bo_max (pa_cons pe_int (pa_cons (pe_callB (call_min2 rfl) (by rfl) T.n_min bo_min (pa_cons pe_int (pa_cons (pe_callB (kcall_len (K := K)) (by rfl) T.n_len bo_len (pa_cons (pv 0) pa_nil)) pa_nil))) pa_nil))) pa_nil)) (pg_name (i := 1) sc_law.nd rfl (Or.inl rfl)) (pss_one (ps_if (pt_not (pt_val (pe_f c__law_right hr (by decide) rfl (pa_cons (pe_f c__law_sack hr (by decide) rfl (pa_cons (pv 0) (pa_cons (pv 1) pa_nil))) pa_nil)))) (pss_one (ps_ret pe_bl)) pss_nil))) (pss_cons (ps_if (pt_cmpR (kop_neD (K := K) hr.units) (pe_lst (pa_cons (pe_f c_core hr (by decide) rfl (pa_cons pe_int (pa_cons (pe_tup (pa_cons pe_int (pa_cons pe_int (pa_cons (pe_un un_neg pe_int) pa_nil)))) pa_nil))) (pa_cons (pe_f c_core hr (by decide) rfl (pa_cons pe_int (pa_cons (pe_tup (pa_cons pe_int (pa_cons pe_int pa_nil))) pa_nil))) (pa_cons (pe_f c_core hr (by decide) rfl (pa_cons pe_int (pa_cons (pe_tup pa_nil) pa_nil))) pa_nil)))) (pe_lst (pa_cons (pe_tup (pa_cons (pe_tup (pa_cons pe_int pa_nil)) (pa_cons (pe_tup (pa_cons pe_int pa_nil)) pa_nil))) (pa_cons (pe_tup (pa_cons (pe_tup pa_nil) (pa_cons (pe_tup (pa_cons pe_int (pa_cons pe_int pa_nil))) pa_nil))) (pa_cons (pe_tup (pa_cons (pe_tup pa_nil) (pa_cons (pe_tup pa_nil) pa_nil))) pa_nil)))) (nomark _)) (pss_one (ps_ret pe_bl)) pss_nil) (pss_cons (ps_if (pt_cmpR (kop_neD (K := K) hr.units) (pe_lst (pa_cons (pe_f c_ring hr (by decide) rfl (pa_cons pe_int (pa_cons (pe_tup (pa_cons pe_int (pa_cons pe_int (pa_cons pe_int (pa_cons (pe_un un_neg pe_int) pa_nil))))) pa_nil))) (pa_cons (pe_f c_ring hr (by decide) rfl (pa_cons pe_int (pa_cons (pe_tup (pa_cons pe_int (pa_cons pe_int pa_nil))) pa_nil))) (pa_cons (pe_f c_ring hr (by decide) rfl (pa_cons pe_int (pa_cons (pe_tup (pa_cons pe_int (pa_cons (pe_un un_neg pe_int) (pa_cons (pe_un un_neg pe_int) pa_nil)))) pa_nil))) pa_nil)))) (pe_lst (pa_cons (pe_tup (pa_cons (pe_un un_neg pe_int) (pa_cons pe_int (pa_cons pe_int (pa_cons pe_int pa_nil))))) (pa_cons (pe_tup (pa_cons pe_int (pa_cons pe_int pa_nil))) (pa_cons (pe_tup (pa_cons (pe_un un_neg pe_int) pa_nil)) pa_nil)))) (nomark _)) (pss_one (ps_ret pe_bl)) pss_nil) (pss_cons (ps_if (PW.pt (pw_or (pt_cmpR op_notN (pe_f c_between hr (by decide) rfl (pa_cons pe_int (pa_cons (pe_tup (pa_cons pe_int pa_nil)) (pa_cons (pe_tup (pa_cons pe_int pa_nil)) pa_nil)))) pe_non (nomark _)) (pw_or1 (pt_val (pe_f c_are_alike hr (by decide) rfl (pa_cons pe_int (pa_cons (pe_tup (pa_cons pe_int (pa_cons pe_int (pa_cons (pe_un un_neg pe_int) (pa_cons (pe_un un_neg pe_int) pa_nil))))) (pa_cons (pe_tup pa_nil) pa_nil)))))))) (pss_one (ps_ret pe_bl)) pss_nil) (pss_cons (ps_set (i := 2) sc_law.nd rfl (Or.inl rfl) (pe_lst (pa_cons (pe_f c_is_between hr (by decide) rfl (pa_cons pe_int (pa_cons (pe_tup (pa_cons pe_int (pa_cons pe_int pa_nil))) (pa_cons (pe_tup (pa_cons pe_int (pa_cons pe_int pa_nil))) (pa_cons (pe_tup (pa_cons pe_int pa_nil)) pa_nil))))) (pa_cons (pe_f c_is_between hr (by decide) rfl (pa_cons pe_int (pa_cons (pe_tup (pa_cons pe_int (pa_cons pe_int pa_nil))) (pa_cons (pe_tup (pa_cons pe_int (pa_cons pe_int pa_nil))) (pa_cons (pe_tup (pa_cons (pe_un un_neg pe_int) pa_nil)) pa_nil))))) pa_nil)))) (pss_cons (ps_set (i := 3) sc_law.nd rfl (Or.inl rfl) (pe_lst (pa_cons (pe_f c_is_between hr (by decide) rfl (pa_cons pe_int (pa_cons (pe_tup (pa_cons pe_int pa_nil)) (pa_cons (pe_tup (pa_cons pe_int pa_nil)) (pa_cons (pe_op (kop_repA (K := K)) (pe_tup (pa_cons pe_int pa_nil)) pe_int) pa_nil))))) (pa_cons (pe_f c_is_between hr (by decide) rfl (pa_cons pe_int (pa_cons (pe_tup (pa_cons pe_int pa_nil)) (pa_cons (pe_tup (pa_cons pe_int pa_nil)) (pa_cons (pe_op (kop_repA (K := K)) (pe_tup (pa_cons pe_int pa_nil)) pe_int) pa_nil))))) pa_nil)))) (pss_cons (ps_if (PW.pt (pw_or (pt_cmpR (kop_neD (K := K) hr.units) (pv 2) (pe_lst (pa_cons pe_bl (pa_cons pe_bl pa_nil))) (nomark _)) (pw_or1 (pt_cmpR (kop_neD (K := K) hr.units) (pv 3) (pe_lst (pa_cons pe_bl (pa_cons pe_bl pa_nil))) (nomark _))))) (pss_one (ps_ret pe_bl)) pss_nil) (pss_one (ps_ret (pe_and (pe_f c_is_between hr (by decide) rfl (pa_cons pe_int (pa_cons (pe_tup pa_nil) (pa_cons (pe_tup pa_nil) (pa_cons (pe_tup (pa_cons pe_int (pa_cons pe_int (pa_cons pe_int pa_nil)))) pa_nil))))) (pe_one (pe_cmpR (kop_eqD (K := K) hr.units) (pe_f c_turned hr (by decide) rfl (pa_cons pe_int (pa_cons (pe_tup (pa_cons pe_int pa_nil)) (pa_cons (pe_tup (pa_cons pe_int (pa_cons pe_int pa_nil))) pa_nil)))) (pe_tup (pa_cons pe_int (pa_cons pe_int (pa_cons (pe_un un_neg pe_int) pa_nil)))) (nomark _))))))))))))), ?_⟩
    refine ⟨.ref a, rfl, a, _, rfl, .inl h, _, _, rfl, _, _, rfl, _, rfl, by split <;> split <;> omega, by split <;> split <;> omega, for_range (lo := 0) (fun i σ H' => Same H H' ∧ ∃ x, σ = [some (.ref a), x, none, none]) ⟨Same.refl _, none, rfl⟩ (fun i σ H' hi p => ?_) fun σ H' p => ?_⟩
    · obtain ⟨s1, x, rfl⟩ := p
      have h1 : SqL K H' a (ns.map V.int) := (Rs.same (S := none) True.intro s1).lst (fun q => nomatch q) h
      refine ⟨.ref a, rfl, _, rfl, a, ns, _, rfl, h1, by omega, fun H1 S e1 hS hs => ⟨S, rfl, hs, fun H2 r2 => ⟨true, rfl, ?_⟩⟩⟩
      exact ⟨Same.trans s1 fun b o e => r2.keep b o (fun q => by
        cases q
        rw [hS] at e
        cases e) (e1 b o e), _, rfl⟩
    · obtain ⟨s1, x, rfl⟩ := p
      clear s1 h hl
      dsimp only
      refine ifne_seq (es_lst (edc (es_core (n := 2) (ns := [1, 2, -1]) (c := [1]) (m := [2]) (es_row _ (es_tup (edc (es_int 1) (edc (es_int 2) (edc (es_neg 1) ed0))) (by decide))) (by decide) (by decide) (wd_dec (by decide) (by decide)) (by decide) (Rg.spl_of rfl (cr_by 2 2 rfl rfl (by decide))))
        (edc (es_core (n := 2) (ns := [1, 2]) (c := []) (m := [1, 2]) (i2 1 2) (by decide) (by decide) (wd_dec (by decide) (by decide)) (by decide) (Rg.spl_of rfl (cr_by 2 1 rfl rfl (by decide))))
        (edc (es_core (n := 1) (ns := []) (c := []) (m := []) i0 (by decide) (by decide) (wd_dec (by decide) (by decide)) (by decide) Rg.spl_nil) ed0))) (by decide))
        (es_lst (edc (es_tup (edc (row_es (i1 1)) (edc (row_es (i1 2)) ed0)) (by decide)) (edc (es_tup (edc (row_es i0) (edc (row_es (i2 1 2)) ed0)) (by decide)) (edc (es_tup (edc (row_es i0) (edc (row_es i0) ed0)) (by decide)) ed0))) (by decide))
        (by decide +kernel) (by decide +kernel) (by decide +kernel) fun H1 e1 => ?_
      refine ifne_seq (es_lst (edc (es_ring (n := 2) (ns := [1, 2, 1, -2]) (r := [-2, 1, 2, 1]) (es_row _ (es_tup (edc (es_int 1) (edc (es_int 2) (edc (es_int 1) (edc (es_neg 2) ed0)))) (by decide))) (by decide) (by decide) (wd_dec (by decide) (by decide)) (by decide) ⟨[], [1, 2, 1, -2], Rg.spl_of rfl (cr_by (-2) 1 rfl rfl (by decide)), ring_by 3 (by decide) (by decide) rfl⟩)
        (edc (es_ring (n := 2) (ns := [2, 1]) (r := [1, 2]) (i2 2 1) (by decide) (by decide) (wd_dec (by decide) (by decide)) (by decide) ⟨[], [2, 1], Rg.spl_of rfl (cr_by 1 2 rfl rfl (by decide)), ring_by 1 (by decide) (by decide) rfl⟩)
        (edc (es_ring (n := 2) (ns := [1, -2, -1]) (r := [-2]) (es_row _ (es_tup (edc (es_int 1) (edc (es_neg 2) (edc (es_neg 1) ed0))) (by decide))) (by decide) (by decide) (wd_dec (by decide) (by decide)) (by decide) ⟨[1], [-2], Rg.spl_of rfl (cr_by (-2) (-2) rfl rfl (by decide)), ring_by 0 (by decide) (by decide) rfl⟩) ed0))) (by decide))
        (es_lst (edc (row_es (es_row [-2, 1, 2, 1] (es_tup (edc (es_neg 2) (edc (es_int 1) (edc (es_int 2) (edc (es_int 1) ed0)))) (by decide)))) (edc (row_es (i2 1 2)) (edc (row_es (im 2)) ed0))) (by decide))
        (by decide +kernel) (by decide +kernel) (by decide +kernel) fun H2 e2 => ?_
      have rg1 : Rg.RingW [1] [1] := ⟨[], [1], Rg.spl_of rfl (cr_by 1 1 rfl rfl (by decide)), ring_by 0 (by decide) (by decide) rfl⟩
      have rg2 : Rg.RingW [2] [2] := ⟨[], [2], Rg.spl_of rfl (cr_by 2 2 rfl rfl (by decide)), ring_by 0 (by decide) (by decide) rfl⟩
      refine ifno_seq (eb_or (fun H' e' Q' q' => es_none (n := 2) (i1 1) (i1 2) (by decide) (by decide) (wd_dec (by decide) (by decide)) (by decide) (wd_dec (by decide) (by decide)) (by decide) rg1 rg2 (by decide) H' e' _ fun v H3 e3 ev => ⟨rfl, _, rfl, by rw [ev]; exact q' H3 e3⟩)
        (eb_b (es_alike (n := 2) (ns := [1, 2, -1, -2]) (bs := []) (r := [-2, 1, 2, -1]) (s := []) (es_row _ (es_tup (edc (es_int 1) (edc (es_int 2) (edc (es_neg 1) (edc (es_neg 2) ed0)))) (by decide))) i0 (by decide) (by decide) (wd_dec (by decide) (by decide)) (by decide) (wd_dec (by decide) (by decide)) (by decide) ⟨[], [1, 2, -1, -2], Rg.spl_of rfl (cr_by (-2) 1 rfl rfl (by decide)), ring_by 3 (by decide) (by decide) rfl⟩ ⟨[], [], Rg.spl_nil, Rg.ring_nil⟩ (by decide)))) fun H3 e3 => ?_
      have bd : ∀ {te : TE} {σ : L2.St} {H : Hp} {b : Bool}, EvS te σ H (fun v _ => v = .bl b) → EvS te σ H (IsD K (.bool b)) := fun h => evs_of h fun v H ev => ev ▸ .bl _
      refine asg_seq (es_lst (edc (bd (es_isb (n := 2) (b := true) (i2 1 2) (i2 2 1) (i1 2) (by decide) (by decide) (wd_dec (by decide) (by decide)) (by decide) (wd_dec (by decide) (by decide)) (by decide) (by decide))) (edc (bd (es_isb (n := 2) (b := true) (i2 1 2) (i2 2 1) (im 1) (by decide) (by decide) (wd_dec (by decide) (by decide)) (by decide) (wd_dec (by decide) (by decide)) (by decide) (by decide))) ed0)) (by decide)) fun v H4 e4 hv => ?_
      refine asg_seq (es_lst (edc (bd (es_isb (n := 2) (b := true) (i1 1) (i1 1) (es_rep 400 (i1 1) (by decide) (by decide) (by decide)) (by decide) (by decide) (wd_dec (by decide) (by decide)) (by decide) (wd_dec (by decide) (by decide)) (by decide) (by decide +kernel))) (edc (bd (es_isb (n := 2) (b := false) (i1 1) (i1 1) (es_rep 401 (i1 1) (by decide) (by decide) (by decide)) (by decide) (by decide) (wd_dec (by decide) (by decide)) (by decide) (wd_dec (by decide) (by decide)) (by decide) (by decide +kernel))) ed0)) (by decide)) fun v2 H5 e5 hv2 => ?_
      refine ifne2_seq (es_var rfl (dp_same e5 _ _ hv)) (es_lst (edc (es_bl true) (edc (es_bl true) ed0)) (by decide)) (by decide +kernel) (by decide +kernel) (by decide +kernel) (es_var rfl hv2) (es_lst (edc (es_bl true) (edc (es_bl false) ed0)) (by decide)) (by decide +kernel) (by decide +kernel) (by decide +kernel) fun H6 e6 => ?_
      refine es_isb (n := 3) (b := true) i0 i0 (es_row [1, 2, 3] (es_tup (edc (es_int 1) (edc (es_int 2) (edc (es_int 3) ed0))) (by decide))) (by decide) (by decide) (wd_dec (by decide) (by decide)) (by decide) (wd_dec (by decide) (by decide)) (by decide) (by decide) H6 (Same.refl _) _ fun v3 H7 e7 ev => ⟨true, ev, ?_⟩
      refine es_turned (n := 2) (i1 1) (i2 2 1) (by decide) (by decide) (wd_dec (by decide) (by decide)) (by decide) (wd_dec (by decide) (by decide)) (by decide) H7 (Same.refl _) _ fun v4 H8 e8 ⟨p, ep, hp⟩ => ?_
      refine es_row (K := K) [2, 1, -2] (es_tup (edc (es_int 2) (edc (es_int 1) (edc (es_neg 2) ed0))) (by decide)) H8 (Same.refl _) _ fun v5 H9 e9 ⟨p2, ep2, hp2⟩ => ?_
      subst ep ep2
      refine eq_tup (same_tup e9 hp) hp2 ?_
      rw [show decide (Fr.red ([2, 1] ++ [1] ++ Fr.opp [2, 1]) = [2, 1, -2]) = true by decide]
      exact k _
end
theorem all_mk {P : Program} {w : World} {K : PySem.W.Frag} {h : Heap} {mg : Str → Option Value} {fa : Addr}
    {f1 : Addr} {od1 an1 : Option Addr} {sl1 : Array (Option Value)} {oc1 kV1 dc1 pm1 cd1 ct1 : Value}
    {f2 : Addr} {od2 an2 : Option Addr} {sl2 : Array (Option Value)} {oc2 kV2 dc2 pm2 cd2 ct2 : Value}
    {f3 : Addr} {od3 an3 : Option Addr} {sl3 : Array (Option Value)} {oc3 kV3 dc3 pm3 cd3 ct3 : Value}
    {f4 : Addr} {od4 an4 : Option Addr} {sl4 : Array (Option Value)} {oc4 kV4 dc4 pm4 cd4 ct4 : Value}
    {f5 : Addr} {od5 an5 : Option Addr} {sl5 : Array (Option Value)} {oc5 kV5 dc5 pm5 cd5 ct5 : Value}
    {f6 : Addr} {od6 an6 : Option Addr} {sl6 : Array (Option Value)} {oc6 kV6 dc6 pm6 cd6 ct6 : Value}
    {f7 : Addr} {od7 an7 : Option Addr} {sl7 : Array (Option Value)} {oc7 kV7 dc7 pm7 cd7 ct7 : Value}
    {f8 : Addr} {od8 an8 : Option Addr} {sl8 : Array (Option Value)} {oc8 kV8 dc8 pm8 cd8 ct8 : Value}
    {f9 : Addr} {od9 an9 : Option Addr} {sl9 : Array (Option Value)} {oc9 kV9 dc9 pm9 cd9 ct9 : Value}
    {f10 : Addr} {od10 an10 : Option Addr} {sl10 : Array (Option Value)} {oc10 kV10 dc10 pm10 cd10 ct10 : Value}
    {f11 : Addr} {od11 an11 : Option Addr} {sl11 : Array (Option Value)} {oc11 kV11 dc11 pm11 cd11 ct11 : Value}
    {f12 : Addr} {od12 an12 : Option Addr} {sl12 : Array (Option Value)} {oc12 kV12 dc12 pm12 cd12 ct12 : Value}
    {f13 : Addr} {od13 an13 : Option Addr} {sl13 : Array (Option Value)} {oc13 kV13 dc13 pm13 cd13 ct13 : Value}
    {f14 : Addr} {od14 an14 : Option Addr} {sl14 : Array (Option Value)} {oc14 kV14 dc14 pm14 cd14 ct14 : Value}
    {f15 : Addr} {od15 an15 : Option Addr} {sl15 : Array (Option Value)} {oc15 kV15 dc15 pm15 cd15 ct15 : Value}
    {f16 : Addr} {od16 an16 : Option Addr} {sl16 : Array (Option Value)} {oc16 kV16 dc16 pm16 cd16 ct16 : Value}
    {f17 : Addr} {od17 an17 : Option Addr} {sl17 : Array (Option Value)} {oc17 kV17 dc17 pm17 cd17 ct17 : Value}
    {f18 : Addr} {od18 an18 : Option Addr} {sl18 : Array (Option Value)} {oc18 kV18 dc18 pm18 cd18 ct18 : Value}
    {f19 : Addr} {od19 an19 : Option Addr} {sl19 : Array (Option Value)} {oc19 kV19 dc19 pm19 cd19 ct19 : Value}
    {f20 : Addr} {od20 an20 : Option Addr} {sl20 : Array (Option Value)} {oc20 kV20 dc20 pm20 cd20 ct20 : Value}
    {f21 : Addr} {od21 an21 : Option Addr} {sl21 : Array (Option Value)} {oc21 kV21 dc21 pm21 cd21 ct21 : Value}
    {f22 : Addr} {od22 an22 : Option Addr} {sl22 : Array (Option Value)} {oc22 kV22 dc22 pm22 cd22 ct22 : Value}
    {f23 : Addr} {od23 an23 : Option Addr} {sl23 : Array (Option Value)} {oc23 kV23 dc23 pm23 cd23 ct23 : Value}
    {f24 : Addr} {od24 an24 : Option Addr} {sl24 : Array (Option Value)} {oc24 kV24 dc24 pm24 cd24 ct24 : Value}
    {f25 : Addr} {od25 an25 : Option Addr} {sl25 : Array (Option Value)} {oc25 kV25 dc25 pm25 cd25 ct25 : Value}
    {f26 : Addr} {od26 an26 : Option Addr} {sl26 : Array (Option Value)} {oc26 kV26 dc26 pm26 cd26 ct26 : Value}
    {f27 : Addr} {od27 an27 : Option Addr} {sl27 : Array (Option Value)} {oc27 kV27 dc27 pm27 cd27 ct27 : Value}
    {f28 : Addr} {od28 an28 : Option Addr} {sl28 : Array (Option Value)} {oc28 kV28 dc28 pm28 cd28 ct28 : Value}
    {f29 : Addr} {od29 an29 : Option Addr} {sl29 : Array (Option Value)} {oc29 kV29 dc29 pm29 cd29 ct29 : Value}
    {f30 : Addr} {od30 an30 : Option Addr} {sl30 : Array (Option Value)} {oc30 kV30 dc30 pm30 cd30 ct30 : Value}
    {f31 : Addr} {od31 an31 : Option Addr} {sl31 : Array (Option Value)} {oc31 kV31 dc31 pm31 cd31 ct31 : Value}
    {f32 : Addr} {od32 an32 : Option Addr} {sl32 : Array (Option Value)} {oc32 kV32 dc32 pm32 cd32 ct32 : Value}
    {f33 : Addr} {od33 an33 : Option Addr} {sl33 : Array (Option Value)} {oc33 kV33 dc33 pm33 cd33 ct33 : Value}
    {f34 : Addr} {od34 an34 : Option Addr} {sl34 : Array (Option Value)} {oc34 kV34 dc34 pm34 cd34 ct34 : Value}
    {f35 : Addr} {od35 an35 : Option Addr} {sl35 : Array (Option Value)} {oc35 kV35 dc35 pm35 cd35 ct35 : Value}
    {f36 : Addr} {od36 an36 : Option Addr} {sl36 : Array (Option Value)} {oc36 kV36 dc36 pm36 cd36 ct36 : Value}
    {t_MAX_LETTERS : Tok}
    {t_MAX_WORD : Tok}
    {t_MAX_BETWEEN : Tok}
    (X : K.In h)
    (G : h.Ns mainGlobals mg)
    (hfa : mg "law" = some (.ref fa))
    (a1 : PySem.W.nsIn K mainGlobals "is_integer" = some (some (.ref f1)))
    (l1 : K.lookup f1 = some ⟨oc1, od1, .func (PySem.W.fnOf "is_integer" "is_integer" (defArgs st_is_integer) (defBody st_is_integer) (defScope st_is_integer) .none kV1 dc1 pm1 an1 cd1 ct1), sl1⟩)
    (c1 : PySem.W.codeIn K cd1 "is_integer" = true)
    (k1 : PySem.W.keepIn K (.ref f1) = true)
    (a2 : PySem.W.nsIn K mainGlobals "is_within" = some (some (.ref f2)))
    (l2 : K.lookup f2 = some ⟨oc2, od2, .func (PySem.W.fnOf "is_within" "is_within" (defArgs st_is_within) (defBody st_is_within) (defScope st_is_within) .none kV2 dc2 pm2 an2 cd2 ct2), sl2⟩)
    (c2 : PySem.W.codeIn K cd2 "is_within" = true)
    (k2 : PySem.W.keepIn K (.ref f2) = true)
    (a3 : PySem.W.nsIn K mainGlobals "reduced" = some (some (.ref f3)))
    (l3 : K.lookup f3 = some ⟨oc3, od3, .func (PySem.W.fnOf "reduced" "reduced" (defArgs st_reduced) (defBody st_reduced) (defScope st_reduced) .none kV3 dc3 pm3 an3 cd3 ct3), sl3⟩)
    (c3 : PySem.W.codeIn K cd3 "reduced" = true)
    (k3 : PySem.W.keepIn K (.ref f3) = true)
    (a4 : PySem.W.nsIn K mainGlobals "is_reduced" = some (some (.ref f4)))
    (l4 : K.lookup f4 = some ⟨oc4, od4, .func (PySem.W.fnOf "is_reduced" "is_reduced" (defArgs st_is_reduced) (defBody st_is_reduced) (defScope st_is_reduced) .none kV4 dc4 pm4 an4 cd4 ct4), sl4⟩)
    (c4 : PySem.W.codeIn K cd4 "is_reduced" = true)
    (k4 : PySem.W.keepIn K (.ref f4) = true)
    (a5 : PySem.W.nsIn K mainGlobals "product_of" = some (some (.ref f5)))
    (l5 : K.lookup f5 = some ⟨oc5, od5, .func (PySem.W.fnOf "product_of" "product_of" (defArgs st_product_of) (defBody st_product_of) (defScope st_product_of) .none kV5 dc5 pm5 an5 cd5 ct5), sl5⟩)
    (c5 : PySem.W.codeIn K cd5 "product_of" = true)
    (k5 : PySem.W.keepIn K (.ref f5) = true)
    (a6 : PySem.W.nsIn K mainGlobals "times" = some (some (.ref f6)))
    (l6 : K.lookup f6 = some ⟨oc6, od6, .func (PySem.W.fnOf "times" "times" (defArgs st_times) (defBody st_times) (defScope st_times) .none kV6 dc6 pm6 an6 cd6 ct6), sl6⟩)
    (c6 : PySem.W.codeIn K cd6 "times" = true)
    (k6 : PySem.W.keepIn K (.ref f6) = true)
    (a7 : PySem.W.nsIn K mainGlobals "opposite" = some (some (.ref f7)))
    (l7 : K.lookup f7 = some ⟨oc7, od7, .func (PySem.W.fnOf "opposite" "opposite" (defArgs st_opposite) (defBody st_opposite) (defScope st_opposite) .none kV7 dc7 pm7 an7 cd7 ct7), sl7⟩)
    (c7 : PySem.W.codeIn K cd7 "opposite" = true)
    (k7 : PySem.W.keepIn K (.ref f7) = true)
    (a8 : PySem.W.nsIn K mainGlobals "split_core" = some (some (.ref f8)))
    (l8 : K.lookup f8 = some ⟨oc8, od8, .func (PySem.W.fnOf "split_core" "split_core" (defArgs st_split_core) (defBody st_split_core) (defScope st_split_core) .none kV8 dc8 pm8 an8 cd8 ct8), sl8⟩)
    (c8 : PySem.W.codeIn K cd8 "split_core" = true)
    (k8 : PySem.W.keepIn K (.ref f8) = true)
    (a9 : PySem.W.nsIn K mainGlobals "rotated" = some (some (.ref f9)))
    (l9 : K.lookup f9 = some ⟨oc9, od9, .func (PySem.W.fnOf "rotated" "rotated" (defArgs st_rotated) (defBody st_rotated) (defScope st_rotated) .none kV9 dc9 pm9 an9 cd9 ct9), sl9⟩)
    (c9 : PySem.W.codeIn K cd9 "rotated" = true)
    (k9 : PySem.W.keepIn K (.ref f9) = true)
    (a10 : PySem.W.nsIn K mainGlobals "least_start" = some (some (.ref f10)))
    (l10 : K.lookup f10 = some ⟨oc10, od10, .func (PySem.W.fnOf "least_start" "least_start" (defArgs st_least_start) (defBody st_least_start) (defScope st_least_start) .none kV10 dc10 pm10 an10 cd10 ct10), sl10⟩)
    (c10 : PySem.W.codeIn K cd10 "least_start" = true)
    (k10 : PySem.W.keepIn K (.ref f10) = true)
    (a11 : PySem.W.nsIn K mainGlobals "ring_of" = some (some (.ref f11)))
    (l11 : K.lookup f11 = some ⟨oc11, od11, .func (PySem.W.fnOf "ring_of" "ring_of" (defArgs st_ring_of) (defBody st_ring_of) (defScope st_ring_of) .none kV11 dc11 pm11 an11 cd11 ct11), sl11⟩)
    (c11 : PySem.W.codeIn K cd11 "ring_of" = true)
    (k11 : PySem.W.keepIn K (.ref f11) = true)
    (a12 : PySem.W.nsIn K mainGlobals "turning" = some (some (.ref f12)))
    (l12 : K.lookup f12 = some ⟨oc12, od12, .func (PySem.W.fnOf "turning" "turning" (defArgs st_turning) (defBody st_turning) (defScope st_turning) .none kV12 dc12 pm12 an12 cd12 ct12), sl12⟩)
    (c12 : PySem.W.codeIn K cd12 "turning" = true)
    (k12 : PySem.W.keepIn K (.ref f12) = true)
    (a13 : PySem.W.nsIn K mainGlobals "turned_row" = some (some (.ref f13)))
    (l13 : K.lookup f13 = some ⟨oc13, od13, .func (PySem.W.fnOf "turned_row" "turned_row" (defArgs st_turned_row) (defBody st_turned_row) (defScope st_turned_row) .none kV13 dc13 pm13 an13 cd13 ct13), sl13⟩)
    (c13 : PySem.W.codeIn K cd13 "turned_row" = true)
    (k13 : PySem.W.keepIn K (.ref f13) = true)
    (a14 : PySem.W.nsIn K mainGlobals "check_letters" = some (some (.ref f14)))
    (l14 : K.lookup f14 = some ⟨oc14, od14, .func (PySem.W.fnOf "check_letters" "check_letters" (defArgs st_check_letters) (defBody st_check_letters) (defScope st_check_letters) .none kV14 dc14 pm14 an14 cd14 ct14), sl14⟩)
    (c14 : PySem.W.codeIn K cd14 "check_letters" = true)
    (k14 : PySem.W.keepIn K (.ref f14) = true)
    (a15 : PySem.W.nsIn K mainGlobals "check_word" = some (some (.ref f15)))
    (l15 : K.lookup f15 = some ⟨oc15, od15, .func (PySem.W.fnOf "check_word" "check_word" (defArgs st_check_word) (defBody st_check_word) (defScope st_check_word) .none kV15 dc15 pm15 an15 cd15 ct15), sl15⟩)
    (c15 : PySem.W.codeIn K cd15 "check_word" = true)
    (k15 : PySem.W.keepIn K (.ref f15) = true)
    (a16 : PySem.W.nsIn K mainGlobals "check_words" = some (some (.ref f16)))
    (l16 : K.lookup f16 = some ⟨oc16, od16, .func (PySem.W.fnOf "check_words" "check_words" (defArgs st_check_words) (defBody st_check_words) (defScope st_check_words) .none kV16 dc16 pm16 an16 cd16 ct16), sl16⟩)
    (c16 : PySem.W.codeIn K cd16 "check_words" = true)
    (k16 : PySem.W.keepIn K (.ref f16) = true)
    (a17 : PySem.W.nsIn K mainGlobals "is_row" = some (some (.ref f17)))
    (l17 : K.lookup f17 = some ⟨oc17, od17, .func (PySem.W.fnOf "is_row" "is_row" (defArgs st_is_row) (defBody st_is_row) (defScope st_is_row) .none kV17 dc17 pm17 an17 cd17 ct17), sl17⟩)
    (c17 : PySem.W.codeIn K cd17 "is_row" = true)
    (k17 : PySem.W.keepIn K (.ref f17) = true)
    (a18 : PySem.W.nsIn K mainGlobals "is_bare_row" = some (some (.ref f18)))
    (l18 : K.lookup f18 = some ⟨oc18, od18, .func (PySem.W.fnOf "is_bare_row" "is_bare_row" (defArgs st_is_bare_row) (defBody st_is_bare_row) (defScope st_is_bare_row) .none kV18 dc18 pm18 an18 cd18 ct18), sl18⟩)
    (c18 : PySem.W.codeIn K cd18 "is_bare_row" = true)
    (k18 : PySem.W.keepIn K (.ref f18) = true)
    (a19 : PySem.W.nsIn K mainGlobals "core" = some (some (.ref f19)))
    (l19 : K.lookup f19 = some ⟨oc19, od19, .func (PySem.W.fnOf "core" "core" (defArgs st_core) (defBody st_core) (defScope st_core) .none kV19 dc19 pm19 an19 cd19 ct19), sl19⟩)
    (c19 : PySem.W.codeIn K cd19 "core" = true)
    (k19 : PySem.W.keepIn K (.ref f19) = true)
    (a20 : PySem.W.nsIn K mainGlobals "ring" = some (some (.ref f20)))
    (l20 : K.lookup f20 = some ⟨oc20, od20, .func (PySem.W.fnOf "ring" "ring" (defArgs st_ring) (defBody st_ring) (defScope st_ring) .none kV20 dc20 pm20 an20 cd20 ct20), sl20⟩)
    (c20 : PySem.W.codeIn K cd20 "ring" = true)
    (k20 : PySem.W.keepIn K (.ref f20) = true)
    (a21 : PySem.W.nsIn K mainGlobals "is_ring" = some (some (.ref f21)))
    (l21 : K.lookup f21 = some ⟨oc21, od21, .func (PySem.W.fnOf "is_ring" "is_ring" (defArgs st_is_ring) (defBody st_is_ring) (defScope st_is_ring) .none kV21 dc21 pm21 an21 cd21 ct21), sl21⟩)
    (c21 : PySem.W.codeIn K cd21 "is_ring" = true)
    (k21 : PySem.W.keepIn K (.ref f21) = true)
    (a22 : PySem.W.nsIn K mainGlobals "turned" = some (some (.ref f22)))
    (l22 : K.lookup f22 = some ⟨oc22, od22, .func (PySem.W.fnOf "turned" "turned" (defArgs st_turned) (defBody st_turned) (defScope st_turned) .none kV22 dc22 pm22 an22 cd22 ct22), sl22⟩)
    (c22 : PySem.W.codeIn K cd22 "turned" = true)
    (k22 : PySem.W.keepIn K (.ref f22) = true)
    (a23 : PySem.W.nsIn K mainGlobals "are_alike" = some (some (.ref f23)))
    (l23 : K.lookup f23 = some ⟨oc23, od23, .func (PySem.W.fnOf "are_alike" "are_alike" (defArgs st_are_alike) (defBody st_are_alike) (defScope st_are_alike) .none kV23 dc23 pm23 an23 cd23 ct23), sl23⟩)
    (c23 : PySem.W.codeIn K cd23 "are_alike" = true)
    (k23 : PySem.W.keepIn K (.ref f23) = true)
    (a24 : PySem.W.nsIn K mainGlobals "between" = some (some (.ref f24)))
    (l24 : K.lookup f24 = some ⟨oc24, od24, .func (PySem.W.fnOf "between" "between" (defArgs st_between) (defBody st_between) (defScope st_between) .none kV24 dc24 pm24 an24 cd24 ct24), sl24⟩)
    (c24 : PySem.W.codeIn K cd24 "between" = true)
    (k24 : PySem.W.keepIn K (.ref f24) = true)
    (a25 : PySem.W.nsIn K mainGlobals "is_between" = some (some (.ref f25)))
    (l25 : K.lookup f25 = some ⟨oc25, od25, .func (PySem.W.fnOf "is_between" "is_between" (defArgs st_is_between) (defBody st_is_between) (defScope st_is_between) .none kV25 dc25 pm25 an25 cd25 ct25), sl25⟩)
    (c25 : PySem.W.codeIn K cd25 "is_between" = true)
    (k25 : PySem.W.keepIn K (.ref f25) = true)
    (a26 : PySem.W.nsIn K mainGlobals "_law_sack" = some (some (.ref f26)))
    (l26 : K.lookup f26 = some ⟨oc26, od26, .func (PySem.W.fnOf "_law_sack" "_law_sack" (defArgs st__law_sack) (defBody st__law_sack) (defScope st__law_sack) .none kV26 dc26 pm26 an26 cd26 ct26), sl26⟩)
    (c26 : PySem.W.codeIn K cd26 "_law_sack" = true)
    (k26 : PySem.W.keepIn K (.ref f26) = true)
    (a27 : PySem.W.nsIn K mainGlobals "_law_drawn" = some (some (.ref f27)))
    (l27 : K.lookup f27 = some ⟨oc27, od27, .func (PySem.W.fnOf "_law_drawn" "_law_drawn" (defArgs st__law_drawn) (defBody st__law_drawn) (defScope st__law_drawn) .none kV27 dc27 pm27 an27 cd27 ct27), sl27⟩)
    (c27 : PySem.W.codeIn K cd27 "_law_drawn" = true)
    (k27 : PySem.W.keepIn K (.ref f27) = true)
    (a28 : PySem.W.nsIn K mainGlobals "_law_bare" = some (some (.ref f28)))
    (l28 : K.lookup f28 = some ⟨oc28, od28, .func (PySem.W.fnOf "_law_bare" "_law_bare" (defArgs st__law_bare) (defBody st__law_bare) (defScope st__law_bare) .none kV28 dc28 pm28 an28 cd28 ct28), sl28⟩)
    (c28 : PySem.W.codeIn K cd28 "_law_bare" = true)
    (k28 : PySem.W.keepIn K (.ref f28) = true)
    (a29 : PySem.W.nsIn K mainGlobals "_law_back" = some (some (.ref f29)))
    (l29 : K.lookup f29 = some ⟨oc29, od29, .func (PySem.W.fnOf "_law_back" "_law_back" (defArgs st__law_back) (defBody st__law_back) (defScope st__law_back) .none kV29 dc29 pm29 an29 cd29 ct29), sl29⟩)
    (c29 : PySem.W.codeIn K cd29 "_law_back" = true)
    (k29 : PySem.W.keepIn K (.ref f29) = true)
    (a30 : PySem.W.nsIn K mainGlobals "_law_core" = some (some (.ref f30)))
    (l30 : K.lookup f30 = some ⟨oc30, od30, .func (PySem.W.fnOf "_law_core" "_law_core" (defArgs st__law_core) (defBody st__law_core) (defScope st__law_core) .none kV30 dc30 pm30 an30 cd30 ct30), sl30⟩)
    (c30 : PySem.W.codeIn K cd30 "_law_core" = true)
    (k30 : PySem.W.keepIn K (.ref f30) = true)
    (a31 : PySem.W.nsIn K mainGlobals "_law_ring" = some (some (.ref f31)))
    (l31 : K.lookup f31 = some ⟨oc31, od31, .func (PySem.W.fnOf "_law_ring" "_law_ring" (defArgs st__law_ring) (defBody st__law_ring) (defScope st__law_ring) .none kV31 dc31 pm31 an31 cd31 ct31), sl31⟩)
    (c31 : PySem.W.codeIn K cd31 "_law_ring" = true)
    (k31 : PySem.W.keepIn K (.ref f31) = true)
    (a32 : PySem.W.nsIn K mainGlobals "_law_word" = some (some (.ref f32)))
    (l32 : K.lookup f32 = some ⟨oc32, od32, .func (PySem.W.fnOf "_law_word" "_law_word" (defArgs st__law_word) (defBody st__law_word) (defScope st__law_word) .none kV32 dc32 pm32 an32 cd32 ct32), sl32⟩)
    (c32 : PySem.W.codeIn K cd32 "_law_word" = true)
    (k32 : PySem.W.keepIn K (.ref f32) = true)
    (a33 : PySem.W.nsIn K mainGlobals "_law_is_due" = some (some (.ref f33)))
    (l33 : K.lookup f33 = some ⟨oc33, od33, .func (PySem.W.fnOf "_law_is_due" "_law_is_due" (defArgs st__law_is_due) (defBody st__law_is_due) (defScope st__law_is_due) .none kV33 dc33 pm33 an33 cd33 ct33), sl33⟩)
    (c33 : PySem.W.codeIn K cd33 "_law_is_due" = true)
    (k33 : PySem.W.keepIn K (.ref f33) = true)
    (a34 : PySem.W.nsIn K mainGlobals "_law_near" = some (some (.ref f34)))
    (l34 : K.lookup f34 = some ⟨oc34, od34, .func (PySem.W.fnOf "_law_near" "_law_near" (defArgs st__law_near) (defBody st__law_near) (defScope st__law_near) .none kV34 dc34 pm34 an34 cd34 ct34), sl34⟩)
    (c34 : PySem.W.codeIn K cd34 "_law_near" = true)
    (k34 : PySem.W.keepIn K (.ref f34) = true)
    (a35 : PySem.W.nsIn K mainGlobals "_law_right" = some (some (.ref f35)))
    (l35 : K.lookup f35 = some ⟨oc35, od35, .func (PySem.W.fnOf "_law_right" "_law_right" (defArgs st__law_right) (defBody st__law_right) (defScope st__law_right) .none kV35 dc35 pm35 an35 cd35 ct35), sl35⟩)
    (c35 : PySem.W.codeIn K cd35 "_law_right" = true)
    (k35 : PySem.W.keepIn K (.ref f35) = true)
    (a36 : PySem.W.nsIn K mainGlobals "law" = some (some (.ref f36)))
    (l36 : K.lookup f36 = some ⟨oc36, od36, .func (PySem.W.fnOf "law" "law" (defArgs st_law) (defBody st_law) (defScope st_law) .none kV36 dc36 pm36 an36 cd36 ct36), sl36⟩)
    (c36 : PySem.W.codeIn K cd36 "law" = true)
    (k36 : PySem.W.keepIn K (.ref f36) = true)
    (q_MAX_LETTERS : PySem.W.nsIn K mainGlobals "MAX_LETTERS" = some (some (.int 5 t_MAX_LETTERS)))
    (q_MAX_WORD : PySem.W.nsIn K mainGlobals "MAX_WORD" = some (some (.int 200 t_MAX_WORD)))
    (q_MAX_BETWEEN : PySem.W.nsIn K mainGlobals "MAX_BETWEEN" = some (some (.int 400 t_MAX_BETWEEN)))
    (z_abs : PySem.W.nsIn K mainGlobals "abs" = some none)
    (z_all : PySem.W.nsIn K mainGlobals "all" = some none)
    (z_bool : PySem.W.nsIn K mainGlobals "bool" = some none)
    (z_int : PySem.W.nsIn K mainGlobals "int" = some none)
    (z_isinstance : PySem.W.nsIn K mainGlobals "isinstance" = some none)
    (z_len : PySem.W.nsIn K mainGlobals "len" = some none)
    (z_list : PySem.W.nsIn K mainGlobals "list" = some none)
    (z_max : PySem.W.nsIn K mainGlobals "max" = some none)
    (z_min : PySem.W.nsIn K mainGlobals "min" = some none)
    (z_range : PySem.W.nsIn K mainGlobals "range" = some none)
    (z_tuple : PySem.W.nsIn K mainGlobals "tuple" = some none)
    : ∃ fd : FuncData, (∀ (s : Shared) (v : Value), BindsTo s fd ⟨[v], []⟩ [("script", v)]) ∧ ∀ base : Heap, K.In base → base.Ns mainGlobals mg → FnOk P w K mg base CX0 8 fa fd ["script"] (spLaw K) := by
  have e := hfa.symm.trans (PySem.W.mg_of X G a36)
  cases e
  have F1 := fun_mk (st := st_is_integer) l1 c1 k1
  have b1 := F1.binds (ps := ["value"]) fun _ _ _ _ _ _ us hl => match us, hl with | [_], _ => rfl
  have F2 := fun_mk (st := st_is_within) l2 c2 k2
  have b2 := F2.binds (ps := ["value", "least", "most"]) fun _ _ _ _ _ _ us hl => match us, hl with | [_, _, _], _ => rfl
  have F3 := fun_mk (st := st_reduced) l3 c3 k3
  have b3 := F3.binds (ps := ["row"]) fun _ _ _ _ _ _ us hl => match us, hl with | [_], _ => rfl
  have F4 := fun_mk (st := st_is_reduced) l4 c4 k4
  have b4 := F4.binds (ps := ["row"]) fun _ _ _ _ _ _ us hl => match us, hl with | [_], _ => rfl
  have F5 := fun_mk (st := st_product_of) l5 c5 k5
  have b5 := F5.binds (ps := ["rows"]) fun _ _ _ _ _ _ us hl => match us, hl with | [_], _ => rfl
  have F6 := fun_mk (st := st_times) l6 c6 k6
  have b6 := F6.binds (ps := ["one", "other"]) fun _ _ _ _ _ _ us hl => match us, hl with | [_, _], _ => rfl
  have F7 := fun_mk (st := st_opposite) l7 c7 k7
  have b7 := F7.binds (ps := ["row"]) fun _ _ _ _ _ _ us hl => match us, hl with | [_], _ => rfl
  have F8 := fun_mk (st := st_split_core) l8 c8 k8
  have b8 := F8.binds (ps := ["row"]) fun _ _ _ _ _ _ us hl => match us, hl with | [_], _ => rfl
  have F9 := fun_mk (st := st_rotated) l9 c9 k9
  have b9 := F9.binds (ps := ["row", "start"]) fun _ _ _ _ _ _ us hl => match us, hl with | [_, _], _ => rfl
  have F10 := fun_mk (st := st_least_start) l10 c10 k10
  have b10 := F10.binds (ps := ["row"]) fun _ _ _ _ _ _ us hl => match us, hl with | [_], _ => rfl
  have F11 := fun_mk (st := st_ring_of) l11 c11 k11
  have b11 := F11.binds (ps := ["row"]) fun _ _ _ _ _ _ us hl => match us, hl with | [_], _ => rfl
  have F12 := fun_mk (st := st_turning) l12 c12 k12
  have b12 := F12.binds (ps := ["one", "other"]) fun _ _ _ _ _ _ us hl => match us, hl with | [_, _], _ => rfl
  have F13 := fun_mk (st := st_turned_row) l13 c13 k13
  have b13 := F13.binds (ps := ["row", "by"]) fun _ _ _ _ _ _ us hl => match us, hl with | [_, _], _ => rfl
  have F14 := fun_mk (st := st_check_letters) l14 c14 k14
  have b14 := F14.binds (ps := ["letters"]) fun _ _ _ _ _ _ us hl => match us, hl with | [_], _ => rfl
  have F15 := fun_mk (st := st_check_word) l15 c15 k15
  have b15 := F15.binds (ps := ["letters", "word"]) fun _ _ _ _ _ _ us hl => match us, hl with | [_, _], _ => rfl
  have F16 := fun_mk (st := st_check_words) l16 c16 k16
  have b16 := F16.binds (ps := ["letters", "words"]) fun _ _ _ _ _ _ us hl => match us, hl with | [_, _], _ => rfl
  have F17 := fun_mk (st := st_is_row) l17 c17 k17
  have b17 := F17.binds (ps := ["letters", "value", "most"]) fun _ _ _ _ _ _ us hl => match us, hl with | [_, _, _], _ => rfl
  have F18 := fun_mk (st := st_is_bare_row) l18 c18 k18
  have b18 := F18.binds (ps := ["letters", "value", "most"]) fun _ _ _ _ _ _ us hl => match us, hl with | [_, _, _], _ => rfl
  have F19 := fun_mk (st := st_core) l19 c19 k19
  have b19 := F19.binds (ps := ["letters", "word"]) fun _ _ _ _ _ _ us hl => match us, hl with | [_, _], _ => rfl
  have F20 := fun_mk (st := st_ring) l20 c20 k20
  have b20 := F20.binds (ps := ["letters", "word"]) fun _ _ _ _ _ _ us hl => match us, hl with | [_, _], _ => rfl
  have F21 := fun_mk (st := st_is_ring) l21 c21 k21
  have b21 := F21.binds (ps := ["letters", "value"]) fun _ _ _ _ _ _ us hl => match us, hl with | [_, _], _ => rfl
  have F22 := fun_mk (st := st_turned) l22 c22 k22
  have b22 := F22.binds (ps := ["letters", "word", "by"]) fun _ _ _ _ _ _ us hl => match us, hl with | [_, _, _], _ => rfl
  have F23 := fun_mk (st := st_are_alike) l23 c23 k23
  have b23 := F23.binds (ps := ["letters", "one", "other"]) fun _ _ _ _ _ _ us hl => match us, hl with | [_, _, _], _ => rfl
  have F24 := fun_mk (st := st_between) l24 c24 k24
  have b24 := F24.binds (ps := ["letters", "one", "other"]) fun _ _ _ _ _ _ us hl => match us, hl with | [_, _, _], _ => rfl
  have F25 := fun_mk (st := st_is_between) l25 c25 k25
  have b25 := F25.binds (ps := ["letters", "one", "other", "value"]) fun _ _ _ _ _ _ us hl => match us, hl with | [_, _, _, _], _ => rfl
  have F26 := fun_mk (st := st__law_sack) l26 c26 k26
  have b26 := F26.binds (ps := ["script", "spot"]) fun _ _ _ _ _ _ us hl => match us, hl with | [_, _], _ => rfl
  have F27 := fun_mk (st := st__law_drawn) l27 c27 k27
  have b27 := F27.binds (ps := ["sack", "total"]) fun _ _ _ _ _ _ us hl => match us, hl with | [_, _], _ => rfl
  have F28 := fun_mk (st := st__law_bare) l28 c28 k28
  have b28 := F28.binds (ps := ["row"]) fun _ _ _ _ _ _ us hl => match us, hl with | [_], _ => rfl
  have F29 := fun_mk (st := st__law_back) l29 c29 k29
  have b29 := F29.binds (ps := ["word"]) fun _ _ _ _ _ _ us hl => match us, hl with | [_], _ => rfl
  have F30 := fun_mk (st := st__law_core) l30 c30 k30
  have b30 := F30.binds (ps := ["word"]) fun _ _ _ _ _ _ us hl => match us, hl with | [_], _ => rfl
  have F31 := fun_mk (st := st__law_ring) l31 c31 k31
  have b31 := F31.binds (ps := ["word"]) fun _ _ _ _ _ _ us hl => match us, hl with | [_], _ => rfl
  have F32 := fun_mk (st := st__law_word) l32 c32 k32
  have b32 := F32.binds (ps := ["sack", "letters", "most"]) fun _ _ _ _ _ _ us hl => match us, hl with | [_, _, _], _ => rfl
  have F33 := fun_mk (st := st__law_is_due) l33 c33 k33
  have b33 := F33.binds (ps := ["letters", "one", "other", "value"]) fun _ _ _ _ _ _ us hl => match us, hl with | [_, _, _, _], _ => rfl
  have F34 := fun_mk (st := st__law_near) l34 c34 k34
  have b34 := F34.binds (ps := ["sack", "letters", "one", "other", "told"]) fun _ _ _ _ _ _ us hl => match us, hl with | [_, _, _, _, _], _ => rfl
  have F35 := fun_mk (st := st__law_right) l35 c35 k35
  have b35 := F35.binds (ps := ["sack"]) fun _ _ _ _ _ _ us hl => match us, hl with | [_], _ => rfl
  have T : Txt K mg := ⟨⟨_, _, F1, PySem.W.mg_of X G a1, b1⟩,
    ⟨_, _, F2, PySem.W.mg_of X G a2, b2⟩,
    ⟨_, _, F3, PySem.W.mg_of X G a3, b3⟩,
    ⟨_, _, F4, PySem.W.mg_of X G a4, b4⟩,
    ⟨_, _, F5, PySem.W.mg_of X G a5, b5⟩,
    ⟨_, _, F6, PySem.W.mg_of X G a6, b6⟩,
    ⟨_, _, F7, PySem.W.mg_of X G a7, b7⟩,
    ⟨_, _, F8, PySem.W.mg_of X G a8, b8⟩,
    ⟨_, _, F9, PySem.W.mg_of X G a9, b9⟩,
    ⟨_, _, F10, PySem.W.mg_of X G a10, b10⟩,
    ⟨_, _, F11, PySem.W.mg_of X G a11, b11⟩,
    ⟨_, _, F12, PySem.W.mg_of X G a12, b12⟩,
    ⟨_, _, F13, PySem.W.mg_of X G a13, b13⟩,
    ⟨_, _, F14, PySem.W.mg_of X G a14, b14⟩,
    ⟨_, _, F15, PySem.W.mg_of X G a15, b15⟩,
    ⟨_, _, F16, PySem.W.mg_of X G a16, b16⟩,
    ⟨_, _, F17, PySem.W.mg_of X G a17, b17⟩,
    ⟨_, _, F18, PySem.W.mg_of X G a18, b18⟩,
    ⟨_, _, F19, PySem.W.mg_of X G a19, b19⟩,
    ⟨_, _, F20, PySem.W.mg_of X G a20, b20⟩,
    ⟨_, _, F21, PySem.W.mg_of X G a21, b21⟩,
    ⟨_, _, F22, PySem.W.mg_of X G a22, b22⟩,
    ⟨_, _, F23, PySem.W.mg_of X G a23, b23⟩,
    ⟨_, _, F24, PySem.W.mg_of X G a24, b24⟩,
    ⟨_, _, F25, PySem.W.mg_of X G a25, b25⟩,
    ⟨_, _, F26, PySem.W.mg_of X G a26, b26⟩,
    ⟨_, _, F27, PySem.W.mg_of X G a27, b27⟩,
    ⟨_, _, F28, PySem.W.mg_of X G a28, b28⟩,
    ⟨_, _, F29, PySem.W.mg_of X G a29, b29⟩,
    ⟨_, _, F30, PySem.W.mg_of X G a30, b30⟩,
    ⟨_, _, F31, PySem.W.mg_of X G a31, b31⟩,
    ⟨_, _, F32, PySem.W.mg_of X G a32, b32⟩,
    ⟨_, _, F33, PySem.W.mg_of X G a33, b33⟩,
    ⟨_, _, F34, PySem.W.mg_of X G a34, b34⟩,
    ⟨_, _, F35, PySem.W.mg_of X G a35, b35⟩,
    ⟨_, PySem.W.mg_of X G q_MAX_LETTERS⟩,
    ⟨_, PySem.W.mg_of X G q_MAX_WORD⟩,
    ⟨_, PySem.W.mg_of X G q_MAX_BETWEEN⟩,
    PySem.W.mg_none_of X G z_abs,
    PySem.W.mg_none_of X G z_all,
    PySem.W.mg_none_of X G z_bool,
    PySem.W.mg_none_of X G z_int,
    PySem.W.mg_none_of X G z_isinstance,
    PySem.W.mg_none_of X G z_len,
    PySem.W.mg_none_of X G z_list,
    PySem.W.mg_none_of X G z_max,
    PySem.W.mg_none_of X G z_min,
    PySem.W.mg_none_of X G z_range,
    PySem.W.mg_none_of X G z_tuple⟩
  exact ⟨PySem.W.fnOf "law" "law" (defArgs st_law) (defBody st_law) (defScope st_law) .none kV36 dc36 pm36 an36 cd36 ct36, fun s v => .of_eq rfl, fun base _ _ => ok_law (fun_mk (st := st_law) l36 c36 k36) T⟩
theorem walk {l : PySem.W.OpenLaw} {q : Program} {loose : List Str} {XP : (Str → Option Value) → Heap → Prop} {YP : World → Heap → Prop} {d : DefRec} {K : Params → PySem.W.Frag} (hn : l.most = some 63) (hdf : d.params.defaults = [])
    (hY : ∀ (w : World) (h : Heap), YP w h → (K w.params).In h)
    (F : ∀ (w : World) (mg : Str → Option Value) (fa : Addr) (h : Heap), (K w.params).In h → h.Ns mainGlobals mg → mg d.name = some (.ref fa) →
      ∃ fd : FuncData, (∀ (s : Shared) (u : Value), BindsTo s fd ⟨[u], []⟩ [("script", u)]) ∧ ∀ base : Heap, (K w.params).In base → base.Ns mainGlobals mg → FnOk l.prog w (K w.params) mg base CX0 8 fa fd ["script"] (spLaw (K w.params))) :
    PySem.W.WalkO q loose XP YP l.row.toRowW d [] (fun f vs => PySem.call f vs) :=
  L2.walk_of (n := 63) (k := 8) (x := "script") (CX := fun _ => CX0) (sp := fun w => spLaw (K w.params)) hn (by decide) hdf ⟨rfl, by decide, by decide⟩ hY F (fun _ _ a ns hl _ hS => ⟨a, ns, rfl, hS, hl, fun _ => rfl⟩) fun _ _ _ _ _ z => z
end Pr

open PySem PySem.W PyProof.Rows in
set_option maxRecDepth 100000 in
set_option maxHeartbeats 0 in
theorem PySem.Challenge.cw_noroadback_k03_whole_rings_and_words_bet_holds : PySem.Challenge.rw_noroadback_k03_whole_rings_and_words_bet.Holds := by
  w_on; o_law; k_head; (case hw => w_witness2)
  k_fill
  refine Pr.walk (l := PySem.Challenge.rw_noroadback_k03_whole_rings_and_words_bet) rfl rfl (fun w h Y => PySem.W.kIn_of Y) ?F
  case F =>
    intro w mg fa h KX G hmg
    refine' Pr.all_mk KX G hmg ?a1 ?l1 ?c1 ?k1 ?a2 ?l2 ?c2 ?k2 ?a3 ?l3 ?c3 ?k3 ?a4 ?l4 ?c4 ?k4 ?a5 ?l5 ?c5 ?k5 ?a6 ?l6 ?c6 ?k6 ?a7 ?l7 ?c7 ?k7 ?a8 ?l8 ?c8 ?k8 ?a9 ?l9 ?c9 ?k9 ?a10 ?l10 ?c10 ?k10 ?a11 ?l11 ?c11 ?k11 ?a12 ?l12 ?c12 ?k12 ?a13 ?l13 ?c13 ?k13 ?a14 ?l14 ?c14 ?k14 ?a15 ?l15 ?c15 ?k15 ?a16 ?l16 ?c16 ?k16 ?a17 ?l17 ?c17 ?k17 ?a18 ?l18 ?c18 ?k18 ?a19 ?l19 ?c19 ?k19 ?a20 ?l20 ?c20 ?k20 ?a21 ?l21 ?c21 ?k21 ?a22 ?l22 ?c22 ?k22 ?a23 ?l23 ?c23 ?k23 ?a24 ?l24 ?c24 ?k24 ?a25 ?l25 ?c25 ?k25 ?a26 ?l26 ?c26 ?k26 ?a27 ?l27 ?c27 ?k27 ?a28 ?l28 ?c28 ?k28 ?a29 ?l29 ?c29 ?k29 ?a30 ?l30 ?c30 ?k30 ?a31 ?l31 ?c31 ?k31 ?a32 ?l32 ?c32 ?k32 ?a33 ?l33 ?c33 ?k33 ?a34 ?l34 ?c34 ?k34 ?a35 ?l35 ?c35 ?k35 ?a36 ?l36 ?c36 ?k36 ?q_MAX_LETTERS ?q_MAX_WORD ?q_MAX_BETWEEN ?z_abs ?z_all ?z_bool ?z_int ?z_isinstance ?z_len ?z_list ?z_max ?z_min ?z_range ?z_tuple
    (case a1 => k_is)
    (case l1 => k_is)
    (case c1 => k_is)
    (case k1 => k_is)
    (case a2 => k_is)
    (case l2 => k_is)
    (case c2 => k_is)
    (case k2 => k_is)
    (case a3 => k_is)
    (case l3 => k_is)
    (case c3 => k_is)
    (case k3 => k_is)
    (case a4 => k_is)
    (case l4 => k_is)
    (case c4 => k_is)
    (case k4 => k_is)
    (case a5 => k_is)
    (case l5 => k_is)
    (case c5 => k_is)
    (case k5 => k_is)
    (case a6 => k_is)
    (case l6 => k_is)
    (case c6 => k_is)
    (case k6 => k_is)
    (case a7 => k_is)
    (case l7 => k_is)
    (case c7 => k_is)
    (case k7 => k_is)
    (case a8 => k_is)
    (case l8 => k_is)
    (case c8 => k_is)
    (case k8 => k_is)
    (case a9 => k_is)
    (case l9 => k_is)
    (case c9 => k_is)
    (case k9 => k_is)
    (case a10 => k_is)
    (case l10 => k_is)
    (case c10 => k_is)
    (case k10 => k_is)
    (case a11 => k_is)
    (case l11 => k_is)
    (case c11 => k_is)
    (case k11 => k_is)
    (case a12 => k_is)
    (case l12 => k_is)
    (case c12 => k_is)
    (case k12 => k_is)
    (case a13 => k_is)
    (case l13 => k_is)
    (case c13 => k_is)
    (case k13 => k_is)
    (case a14 => k_is)
    (case l14 => k_is)
    (case c14 => k_is)
    (case k14 => k_is)
    (case a15 => k_is)
    (case l15 => k_is)
    (case c15 => k_is)
    (case k15 => k_is)
    (case a16 => k_is)
    (case l16 => k_is)
    (case c16 => k_is)
    (case k16 => k_is)
    (case a17 => k_is)
    (case l17 => k_is)
    (case c17 => k_is)
    (case k17 => k_is)
    (case a18 => k_is)
    (case l18 => k_is)
    (case c18 => k_is)
    (case k18 => k_is)
    (case a19 => k_is)
    (case l19 => k_is)
    (case c19 => k_is)
    (case k19 => k_is)
    (case a20 => k_is)
    (case l20 => k_is)
    (case c20 => k_is)
    (case k20 => k_is)
    (case a21 => k_is)
    (case l21 => k_is)
    (case c21 => k_is)
    (case k21 => k_is)
    (case a22 => k_is)
    (case l22 => k_is)
    (case c22 => k_is)
    (case k22 => k_is)
    (case a23 => k_is)
    (case l23 => k_is)
    (case c23 => k_is)
    (case k23 => k_is)
    (case a24 => k_is)
    (case l24 => k_is)
    (case c24 => k_is)
    (case k24 => k_is)
    (case a25 => k_is)
    (case l25 => k_is)
    (case c25 => k_is)
    (case k25 => k_is)
    (case a26 => k_is)
    (case l26 => k_is)
    (case c26 => k_is)
    (case k26 => k_is)
    (case a27 => k_is)
    (case l27 => k_is)
    (case c27 => k_is)
    (case k27 => k_is)
    (case a28 => k_is)
    (case l28 => k_is)
    (case c28 => k_is)
    (case k28 => k_is)
    (case a29 => k_is)
    (case l29 => k_is)
    (case c29 => k_is)
    (case k29 => k_is)
    (case a30 => k_is)
    (case l30 => k_is)
    (case c30 => k_is)
    (case k30 => k_is)
    (case a31 => k_is)
    (case l31 => k_is)
    (case c31 => k_is)
    (case k31 => k_is)
    (case a32 => k_is)
    (case l32 => k_is)
    (case c32 => k_is)
    (case k32 => k_is)
    (case a33 => k_is)
    (case l33 => k_is)
    (case c33 => k_is)
    (case k33 => k_is)
    (case a34 => k_is)
    (case l34 => k_is)
    (case c34 => k_is)
    (case k34 => k_is)
    (case a35 => k_is)
    (case l35 => k_is)
    (case c35 => k_is)
    (case k35 => k_is)
    (case a36 => k_is)
    (case l36 => k_is)
    (case c36 => k_is)
    (case k36 => k_is)
    (case q_MAX_LETTERS => k_is)
    (case q_MAX_WORD => k_is)
    (case q_MAX_BETWEEN => k_is)
    (case z_abs => k_is)
    (case z_all => k_is)
    (case z_bool => k_is)
    (case z_int => k_is)
    (case z_isinstance => k_is)
    (case z_len => k_is)
    (case z_list => k_is)
    (case z_max => k_is)
    (case z_min => k_is)
    (case z_range => k_is)
    (case z_tuple => k_is)
