import Derived.Test.YtnjiinbhbjpfkaaGreatDoorKW
set_option maxRecDepth 100000
set_option maxHeartbeats 0
set_option linter.all false
namespace Go.Proofs.YtnjiinbhbjpfkaaGreatDoor
open Go.RowKit Go.Proofs.Tryz
namespace D
open F
variable {p : Dp} {m m' : Dm} {g g' : Dg} {w w' : World}
def vO(P:Nat->Bool):Nat->Nat
 | 0=>0
 | n+1=>vO P n+if P (n+1)=true then 1 else 0
theorem DN(P:Nat->Bool):∀n,BJ (λt=>(1<=t/\t<=n)/\P t=true) (vO P n)
 | 0=>⟨[],List.nodup_nil,λt=>⟨λh=>(by cases h),λh=>(by omega)⟩,rfl⟩
 | n+1=>by
  obtain⟨l,y,u,G⟩:=DN P n;have i:n+1∉l:=λh=>by have:=((u _).1 h).1;omega
  by_cases e:P (n+1)=true
  .refine⟨(n+1) :: l,List.nodup_cons.2 ⟨i,y⟩,λt=>?_,by rw[vO,aj e,G];rfl⟩;rw[List.mem_cons,u];constructor
   .rintro(rfl|h)
    .exact⟨⟨by omega,bj _⟩,e⟩
    exact⟨⟨h.1.1,by omega⟩,h.2⟩
   intro h;by_cases o:t=n+1
   .exact ag o
   exact ab ⟨⟨h.1.1,by omega⟩,h.2⟩
  refine⟨l,y,λt=>?_,by rw[vO,aa e,G];rfl⟩;rw[u];constructor
  .intro h;exact⟨⟨h.1.1,by omega⟩,h.2⟩
  intro h;have:t≠n+1:=λo=>e (o▸h.2);exact⟨⟨h.1.1,by omega⟩,h.2⟩
theorem F0(h:dQ p m g w)(hn:m.nt≠0):Calls prog 77 #[P0 g.mb] w λe w'=>∃N:Nat,e=.returned (.int .i64 N)/\N<=m.nt/\D7 m N/\w.grownBy w' none:=by
 obtain⟨tb,hb,hl,hm,Z⟩:=h.T hn;have c6:w.cell? ⟨g.mb,6,none⟩=some (.slice (some ⟨tb,0,none⟩) m.nt (g.ro 1 0).2):=by rw[<-hb];exact(h.mc 6 (by omega) rfl).1
 have a5:m.nt<=9223372036854775807:=by unfold maxLen at hm;omega
 have HF:=az Z;have lt:=Z.lt;generalize g.mb=rb at *;go_in;go_wp2_with fail
 go_loopw [3,4] (λn i wr=>∃(N I:Nat),n=.int .i64 N/\i=.int .i64 I/\I<=m.nt/\N<=I/\Hid (N=vO (λt=>decide ((m.T t).how≠5)) I)/\Hid (w.grownBy wr none)) (λ_ i _=>m.nt-(intOf i).toNat)
 case atStart=>exact⟨0,0,rfl,rfl,by omega,by omega,rfl,ax _ _⟩
 case round=>
  obtain⟨N,I,rfl,rfl,hI,hN,J,H⟩:=hrel;have y:=λ(k:Nat) (y:k<w.heap.size)=>H.block k y (by intro e;cases e);have d6:=(aw (a:=⟨rb,6,none⟩) (y rb (av w _ c6))).trans c6;have o:=HF.block (y tb lt);by_cases a4:I<m.nt
  .have hc:∀k,k<8->wr.cell? ⟨tb,I*8+k,none⟩=some (tC (m.T (I+1)) (iR m g 5 (I+1)) k):=λk y=>(o.cell (I*8+k) (by omega)).trans (congrArg some (pc m g (t:=I+1) (by omega) y (by omega)));have a1:(I:Int)<m.nt:=by omega
   have c1:wr.cell? ⟨tb,I*8+1,none⟩=some (.int .i64 ((m.T (I+1)).how:Int)):=hc 1 (by omega);have u:vO (λt=>decide ((m.T t).how≠5)) (I+1)=vO (λt=>decide ((m.T t).how≠5)) I+if decide ((m.T (I+1)).how≠5)=true then 1 else 0:=rfl
   generalize (m.T (I+1)).how=hw at *;clear o hc;by_cases h5:hw=5
   .have Y:Hid (N=vO (λt=>decide ((m.T t).how≠5)) (I+1)):=by show _=_;rw[u,aa (by simpa using h5)];exact J
    go_wp2_with fail
    go_roundw
    case rel=>exact⟨N,I+1,rfl,by go_num,by omega,by omega,Y,H⟩
    case measure=>simp[intOf];omega
   have W:¬((hw:Int)=5):=by omega
   have Y:Hid (N+1=vO (λt=>decide ((m.T t).how≠5)) (I+1)):=by show _=_;rw[u,aj (by simpa using h5)];have:=J.out;omega
   go_wp2_with fail
   go_roundw
   case rel=>exact⟨N+1,I+1,by go_num,by go_num,by omega,by omega,Y,H⟩
   case measure=>simp[intOf];omega
  obtain rfl:I=m.nt:=by omega
  have G:D7 m N:=by
   rw[J.out];obtain⟨l,l1,l2,l3⟩:=DN (λt=>decide ((m.T t).how≠5)) m.nt;exact⟨l,l1,λt=>by rw[l2];simp[mF],l3⟩
  have a0:=az G;go_wp2_with fail
  go_ret;exact⟨N,rfl,by omega,a0,H⟩
def oy(m:Dm)(how what I b:Nat):Prop:=
 (b=0/\∀u,1<=u->u<=I->¬((m.T u).how=how/\(m.T u).what=what))\/((1<=b/\b<=I)/\(m.T b).how=how/\(m.T b).what=what/\∀u,1<=u->u<=I->(m.T u).how=how->(m.T u).what=what->(m.T b).ji<=(m.T u).ji)
theorem oy.no{how what I b:Nat}(h:oy m how what I b)(hn:¬((m.T (I+1)).how=how/\(m.T (I+1)).what=what)):oy m how what (I+1) b:=by
 rcases h with⟨y,o⟩|⟨y,o,Y,W⟩
 .exact ag ⟨y,λu i J=>by
   by_cases e:u=I+1
   .rw[e];exact hn
   exact o u i (by omega)⟩
 exact ab ⟨⟨y.1,by omega⟩,o,Y,λu i J H G=>by
  by_cases e:u=I+1
  .subst e;exact ch ⟨H,G⟩ hn
  exact W u i (by omega) H G⟩
theorem oy.kU{how what I b:Nat}(h:oy m how what I b)(H:b≠0)(hn:(m.T b).ji<=(m.T (I+1)).ji):oy m how what (I+1) b:=by
 rcases h with⟨i,o⟩|⟨i,o,W,J⟩
 .exact ch i H
 exact ab ⟨⟨i.1,by omega⟩,o,W,λu G Z Y y=>by
  by_cases e:u=I+1
  .rw[e];exact hn
  exact J u G (by omega) Y y⟩
theorem oy.take{how what I b:Nat}(h:oy m how what I b)(Y:(m.T (I+1)).how=how)(H:(m.T (I+1)).what=what)(hb:b=0\/(m.T (I+1)).ji<(m.T b).ji):oy m how what (I+1) (I+1):=by
 refine ab ⟨⟨by omega,bj _⟩,Y,H,λu y Z i o=>?_⟩;by_cases e:u=I+1
 .rw[e];exact bj _
 rcases h with⟨W,G⟩|⟨W,G,h2,J⟩
 .exact ch ⟨i,o⟩ (G u y (by omega))
 have:=J u y (by omega) i o;omega
theorem ke(w:World)(Z u J o G i H Y:Value): ∃W,w.alloc (.cells #[Z,u,J,o,G,i,H,Y] 167)=W/\W.cell? ⟨w.heap.size,1,none⟩=some u/\W.cell? ⟨w.heap.size,3,none⟩=some o/\W.cell? ⟨w.heap.size,4,none⟩=some G/\W.cell? ⟨w.heap.size,5,none⟩=some i/\w.heap.size<W.heap.size/\w.grownBy W none/\(∀a v,w.cell? a=some v->W.cell? a=some v):=by
 have y:=bf w (.cells #[Z,u,J,o,G,i,H,Y] 167);have hg:=ah w (.cells #[Z,u,J,o,G,i,H,Y] 167) none;generalize w.alloc (.cells #[Z,u,J,o,G,i,H,Y] 167)=W at *;refine⟨_,rfl,by simp[World.cell?,y],by simp[World.cell?,y],by simp[World.cell?,y],by simp[World.cell?,y],bz y,hg,λa v h=>?_⟩;exact(aw (hg.block a.block (av w _ h) (by intro e;cases e))).trans h
theorem BY{tb cap:Nat}{wr:World}(i:Full wr tb 167 (cap*8) (m.nt*8) (tE m g)){N k:Nat}(u:N≠0)(o:N<=m.nt)(e:k<8):wr.cell? ⟨tb,(N-1)*8+k,none⟩=some (tC (m.T N) (iR m g 5 N) k):=(i.cell ((N-1)*8+k) (by omega)).trans (congrArg some (pc m g (t:=N) (by omega) e rfl))
theorem Hv(h:dQ p m g w)(hn:m.nt≠0)(how what:Nat):Calls prog 192 #[P0 g.mb,.int .i64 how,.int .i64 what] w λe w'=>∃b:Nat,e=.returned (.int .i64 b)/\b<=m.nt/\Iv m how what b/\w.grownBy w' none:=by
 obtain⟨tb,hb,hl,hm,hF⟩:=h.T hn;have c6:w.cell? ⟨g.mb,6,none⟩=some (.slice (some ⟨tb,0,none⟩) m.nt (g.ro 1 0).2):=by rw[<-hb];exact(h.mc 6 (by omega) rfl).1
 have aE:m.nt<=9223372036854775807:=by unfold maxLen at hm;omega
 have HF:=az hF;have lt:=hF.lt;clear hF hm hb hl h;generalize g.mb=rb at *;go_in;go_wp2_with fail
 go_loopw [7,8] (λn i wr=>∃(N I:Nat),n=.int .i64 N/\i=.int .i64 I/\I<=m.nt/\N<=I/\Hid (oy m how what I N)/\Hid (w.grownBy wr none)) (λ_ i _=>m.nt-(intOf i).toNat)
 case atStart=>exact⟨0,0,rfl,rfl,by omega,by omega,ag ⟨rfl,λu u1 u2=>by omega⟩,ax _ _⟩
 case round=>
  obtain⟨N,I,rfl,rfl,hI,hN,Z,Y⟩:=hrel;have hk:=λ(k:Nat) (hk:k<w.heap.size)=>Y.block k hk (by intro e;cases e);have d6:=(aw (a:=⟨rb,6,none⟩) (hk rb (av w _ c6))).trans c6;have a0:=HF.block (hk tb lt);have aC:=a0.lt;have aG:rb<wr.heap.size:=av wr _ d6;clear hk;by_cases aD:I<m.nt
  .have hc:∀k,k<8->wr.cell? ⟨tb,I*8+k,none⟩=some (tC (m.T (I+1)) (iR m g 5 (I+1)) k):=λk hk=>(a0.cell (I*8+k) (by omega)).trans (congrArg some (pc m g (t:=I+1) (by omega) hk (by omega)));have aB:(I:Int)<m.nt:=by omega
   have a6:N≠0->wr.cell? ⟨tb,(N-1)*8+5,none⟩=some (.int .i64 ((m.T N).ji:Int)):=λh=>BY a0 h (by omega) (by omega);have c0:wr.cell? ⟨tb,I*8,none⟩=some (.slice (g.ro 5 (I+1)).1 (m.T (I+1)).fr.length (g.ro 5 (I+1)).2):=hc 0 (by omega);have c1:wr.cell? ⟨tb,I*8+1,none⟩=some (.int .i64 ((m.T (I+1)).how:Int)):=hc 1 (by omega);have c2:wr.cell? ⟨tb,I*8+2,none⟩=some (.int .i64 (m.T (I+1)).into):=hc 2 (by omega);have c3:wr.cell? ⟨tb,I*8+3,none⟩=some (.int .i64 ((m.T (I+1)).what:Int)):=hc 3 (by omega);have c4:wr.cell? ⟨tb,I*8+4,none⟩=some (.int .i64 (m.T (I+1)).km):=hc 4 (by omega);have c5:wr.cell? ⟨tb,I*8+5,none⟩=some (.int .i64 ((m.T (I+1)).ji:Int)):=hc 5 (by omega);have aF:wr.cell? ⟨tb,I*8+6,none⟩=some (.int .i64 ((m.T (I+1)).out.1:Int)):=hc 6 (by omega);have c7:wr.cell? ⟨tb,I*8+7,none⟩=some (.int .i64 (m.T (I+1)).out.2):=hc 7 (by omega);generalize (g.ro 5 (I+1)).1=a1 at *;generalize (g.ro 5 (I+1)).2=a2 at *;generalize hx:m.T (I+1)=x at *;clear hc a0;by_cases h1:x.how=how
   .by_cases h2:x.what=what
    .by_cases h3:N=0
     .have K:Hid (oy m how what (I+1) (I+1)):=Z.take (by rw[hx];exact h1) (by rw[hx];exact h2) (ag h3);clear Z;go_wp2_with fail
      obtain⟨W,J,f1,f3,f4,f5,lW,G,o⟩:=ke wr _ _ _ _ _ _ _ _;rw[J];have y:Hid (w.grownBy W none):=an Y G
      clear J o G Y;go_quiet (fail)
      go_wp2_with fail
      go_roundw
      case rel=>exact⟨I+1,I+1,by go_num,by go_num,by omega,by omega,K,⟨y.os,y.tape,y.output,y.size,y.block⟩⟩
      case measure=>simp[intOf];omega
     have j3:¬((N:Int)=0):=by omega
     by_cases h4:x.ji<(m.T N).ji
     .have j4:(x.ji:Int)<((m.T N).ji:Int):=by omega
      have K:=az (Z.take (by rw[hx];exact h1) (by rw[hx];exact h2) (ab (by rw[hx];exact h4)));clear Z;go_wp2_with fail
      obtain⟨W,J,f1,f3,f4,f5,lW,G,o⟩:=ke wr _ _ _ _ _ _ _ _;rw[J];have e6:=o _ _ d6;have y:=az (an Y G)
      have a5:=o _ _ (a6 h3)
      have aA:((N:Int) == 0)=false:=by simpa using j3
      have a4:IntKind.i64.wrap ((N:Int)-1)=((N-1:Nat):Int):=by simp[IntKind.wrap,IntKind.bits,IntKind.signed];omega
      have a3:N-1<m.nt:=by omega
      generalize N-1=M at a5 a4 a3;have a8:(M:Int)<m.nt:=by omega
      clear J o G Y;go_quiet (fail)
      go_wp2_with fail
      go_roundw
      case rel=>exact⟨I+1,I+1,by go_num,by go_num,by omega,by omega,K,⟨y.os,y.tape,y.output,y.size,y.block⟩⟩
      case measure=>simp[intOf];omega
     have j4:¬((x.ji:Int)<((m.T N).ji:Int)):=by omega
     have K:=az (Z.kU h3 (by rw[hx];omega));clear Z;go_wp2_with fail
     obtain⟨W,J,f1,f3,f4,f5,lW,G,o⟩:=ke wr _ _ _ _ _ _ _ _;rw[J];have e6:=o _ _ d6;have y:=az (an Y G)
     have a5:=o _ _ (a6 h3)
     have aA:((N:Int) == 0)=false:=by simpa using j3
     have a4:IntKind.i64.wrap ((N:Int)-1)=((N-1:Nat):Int):=by simp[IntKind.wrap,IntKind.bits,IntKind.signed];omega
     have a3:N-1<m.nt:=by omega
     generalize N-1=M at a5 a4 a3;have a8:(M:Int)<m.nt:=by omega
     clear J o G Y;go_quiet (fail)
     go_wp2_with fail
     go_roundw
     case rel=>exact⟨N,I+1,by go_num,by go_num,by omega,by omega,K,⟨y.os,y.tape,y.output,y.size,y.block⟩⟩
     case measure=>simp[intOf];omega
    have j2:¬((x.what:Int)=what):=by omega
    have b2:((x.what:Int) == (what:Int))=false:=by simpa using j2
    have K:=az (Z.no (by rw[hx];exact λe=>h2 e.2));clear Z;go_wp2_with fail
    obtain⟨W,J,f1,f3,f4,f5,lW,G,o⟩:=ke wr _ _ _ _ _ _ _ _;rw[J];have y:Hid (w.grownBy W none):=an Y G
    clear J o G Y;go_quiet (fail)
    go_wp2_with fail
    go_roundw
    case rel=>exact⟨N,I+1,by go_num,by go_num,by omega,by omega,K,⟨y.os,y.tape,y.output,y.size,y.block⟩⟩
    case measure=>simp[intOf];omega
   have j1:¬((x.how:Int)=how):=by omega
   have b1:((x.how:Int) == (how:Int))=false:=by simpa using j1
   have K:=az (Z.no (by rw[hx];exact λe=>h1 e.1));clear Z;go_wp2_with fail
   obtain⟨W,J,f1,f3,f4,f5,lW,G,o⟩:=ke wr _ _ _ _ _ _ _ _;rw[J];have y:Hid (w.grownBy W none):=an Y G
   clear J o G Y;go_quiet (fail)
   go_wp2_with fail
   go_roundw
   case rel=>exact⟨N,I+1,by go_num,by go_num,by omega,by omega,K,⟨y.os,y.tape,y.output,y.size,y.block⟩⟩
   case measure=>simp[intOf];omega
  obtain rfl:I=m.nt:=by omega
  have a9:Hid (Iv m how what N):=by
   rcases Z with⟨h0,h1⟩|⟨h0,h1,h2,h3⟩
   .exact ag ⟨h0,λu hu=>h1 u hu.1 hu.2⟩
   exact ab ⟨h0,h1,h2,λu hu=>h3 u hu.1 hu.2⟩
  clear a0 Z;go_wp2_with fail
  go_ret;exact⟨N,rfl,by omega,a9,Y⟩
def tO(m:Dm)(time:Int)(I b:Nat):Prop:=
 (b=0/\∀u,1<=u->u<=I->¬((m.T u).how=2/\(m.T u).km<=time))\/((1<=b/\b<=I)/\(m.T b).how=2/\(m.T b).km<=time/\∀u,1<=u->u<=I->(m.T u).how=2->(m.T u).km<=time->xw (m.T b) (m.T u))
theorem tO.no{i:Int}{I b:Nat}(h:tO m i I b)(hn:¬((m.T (I+1)).how=2/\(m.T (I+1)).km<=i)):tO m i (I+1) b:=by
 rcases h with⟨G,y⟩|⟨G,y,Y,W⟩
 .exact ag ⟨G,λu o Z=>by
   by_cases e:u=I+1
   .rw[e];exact hn
   exact y u o (by omega)⟩
 exact ab ⟨⟨G.1,by omega⟩,y,Y,λu o Z J H=>by
  by_cases e:u=I+1
  .subst e;exact ch ⟨J,H⟩ hn
  exact W u o (by omega) J H⟩
theorem tO.kU{i:Int}{I b:Nat}(h:tO m i I b)(J:b≠0)(hn:xw (m.T b) (m.T (I+1))):tO m i (I+1) b:=by
 rcases h with⟨o,y⟩|⟨o,y,Y,W⟩
 .exact ch o J
 exact ab ⟨⟨o.1,by omega⟩,y,Y,λu H u2 Z G=>by
  by_cases e:u=I+1
  .rw[e];exact hn
  exact W u H (by omega) Z G⟩
theorem tO.take{i:Int}{I b:Nat}(h:tO m i I b)(Z:(m.T (I+1)).how=2)(J:(m.T (I+1)).km<=i)(hb:b=0\/(m.T (I+1)).km<(m.T b).km\/((m.T (I+1)).km=(m.T b).km/\(m.T (I+1)).ji<(m.T b).ji)):tO m i (I+1) (I+1):=by
 refine ab ⟨⟨by omega,bj _⟩,Z,J,λu G u2 o y=>?_⟩;unfold xw;by_cases e:u=I+1
 .rw[e];exact ab ⟨rfl,bj _⟩
 rcases h with⟨Y,H⟩|⟨Y,H,h2,W⟩
 .exact ch ⟨o,y⟩ (H u G (by omega))
 have:=W u G (by omega) o y;unfold xw at this;omega
theorem Lw(h:dQ p m g w)(hn:m.nt≠0):Calls prog 143 #[P0 g.mb] w λe w'=>∃b:Nat,e=.returned (.int .i64 b)/\b<=m.nt/\Iw m b/\w.grownBy w' none:=by
 have C5:Hid (w.cell? ⟨g.mb,5,none⟩=some (.int .i64 m.eY)):=(h.mc 5 (by omega) rfl).1;obtain⟨tb,hb,hl,hm,hF⟩:=h.T hn;have c6:w.cell? ⟨g.mb,6,none⟩=some (.slice (some ⟨tb,0,none⟩) m.nt (g.ro 1 0).2):=by rw[<-hb];exact(h.mc 6 (by omega) rfl).1
 have aG:m.nt<=9223372036854775807:=by unfold maxLen at hm;omega
 have HF:=az hF;have lt:=hF.lt;clear hF hm hb hl h;generalize g.mb=rb at *;go_in;go_wp2_with fail
 go_loopw [3,4] (λn i wr=>∃(N I:Nat),n=.int .i64 N/\i=.int .i64 I/\I<=m.nt/\N<=I/\Hid (tO m m.eY I N)/\Hid (w.grownBy wr none)) (λ_ i _=>m.nt-(intOf i).toNat)
 case atStart=>exact⟨0,0,rfl,rfl,by omega,by omega,ag ⟨rfl,λu u1 u2=>by omega⟩,ax _ _⟩
 case round=>
  obtain⟨N,I,rfl,rfl,hI,hN,Z,Y⟩:=hrel;have hk:=λ(k:Nat) (hk:k<w.heap.size)=>Y.block k hk (by intro e;cases e);have d6:=(aw (a:=⟨rb,6,none⟩) (hk rb (av w _ c6))).trans c6;have d5:wr.cell? ⟨rb,5,none⟩=some (.int .i64 m.eY):=(aw (a:=⟨rb,5,none⟩) (hk rb (av w _ c6))).trans C5;have a6:=HF.block (hk tb lt);have aE:=a6.lt;have aI:rb<wr.heap.size:=av wr _ d6;clear hk;by_cases aF:I<m.nt
  .have hc:∀k,k<8->wr.cell? ⟨tb,I*8+k,none⟩=some (tC (m.T (I+1)) (iR m g 5 (I+1)) k):=λk hk=>(a6.cell (I*8+k) (by omega)).trans (congrArg some (pc m g (t:=I+1) (by omega) hk (by omega)));have aD:(I:Int)<m.nt:=by omega
   have a7:N≠0->wr.cell? ⟨tb,(N-1)*8+4,none⟩=some (.int .i64 (m.T N).km):=λh=>BY a6 h (by omega) (by omega);have a8:N≠0->wr.cell? ⟨tb,(N-1)*8+5,none⟩=some (.int .i64 ((m.T N).ji:Int)):=λh=>BY a6 h (by omega) (by omega);have c0:wr.cell? ⟨tb,I*8,none⟩=some (.slice (g.ro 5 (I+1)).1 (m.T (I+1)).fr.length (g.ro 5 (I+1)).2):=hc 0 (by omega);have c1:wr.cell? ⟨tb,I*8+1,none⟩=some (.int .i64 ((m.T (I+1)).how:Int)):=hc 1 (by omega);have c2:wr.cell? ⟨tb,I*8+2,none⟩=some (.int .i64 (m.T (I+1)).into):=hc 2 (by omega);have c3:wr.cell? ⟨tb,I*8+3,none⟩=some (.int .i64 ((m.T (I+1)).what:Int)):=hc 3 (by omega);have c4:wr.cell? ⟨tb,I*8+4,none⟩=some (.int .i64 (m.T (I+1)).km):=hc 4 (by omega);have c5:wr.cell? ⟨tb,I*8+5,none⟩=some (.int .i64 ((m.T (I+1)).ji:Int)):=hc 5 (by omega);have aH:wr.cell? ⟨tb,I*8+6,none⟩=some (.int .i64 ((m.T (I+1)).out.1:Int)):=hc 6 (by omega);have c7:wr.cell? ⟨tb,I*8+7,none⟩=some (.int .i64 (m.T (I+1)).out.2):=hc 7 (by omega);generalize (g.ro 5 (I+1)).1=a1 at *;generalize (g.ro 5 (I+1)).2=a2 at *;generalize hx:m.T (I+1)=x at *;clear hc a6;by_cases h1:x.how=2
   .by_cases h2:x.km<=m.eY
    .have j2:¬(m.eY<x.km):=by omega
     by_cases h3:N=0
     .have K:Hid (tO m m.eY (I+1) (I+1)):=Z.take (by rw[hx];exact h1) (by rw[hx];exact h2) (ag h3);clear Z;go_wp2_with fail
      obtain⟨W,J,f1,f3,f4,f5,lW,G,o⟩:=ke wr _ _ _ _ _ _ _ _;rw[J];have e5:=o _ _ d5;have y:=az (an Y G)
      clear J o G Y;go_quiet (fail)
      go_wp2_with fail
      go_quiet (fail)
      go_wp2_with fail
      go_roundw
      case rel=>exact⟨I+1,I+1,by go_num,by go_num,by omega,by omega,K,⟨y.os,y.tape,y.output,y.size,y.block⟩⟩
      case measure=>simp[intOf];omega
     have j3:¬((N:Int)=0):=by omega
     by_cases h4:x.km<(m.T N).km
     .skip
      have K:=az (Z.take (by rw[hx];exact h1) (by rw[hx];exact h2) (ab (ag (by rw[hx];exact h4))));clear Z;go_wp2_with fail
      obtain⟨W,J,f1,f3,f4,f5,lW,G,o⟩:=ke wr _ _ _ _ _ _ _ _;rw[J];have e6:=o _ _ d6;have e5:=o _ _ d5;have y:=az (an Y G)
      have a5:=o _ _ (a7 h3);have a4:=o _ _ (a8 h3)
      have aB:((N:Int) == 0)=false:=by simpa using j3
      have a3:IntKind.i64.wrap ((N:Int)-1)=((N-1:Nat):Int):=by simp[IntKind.wrap,IntKind.bits,IntKind.signed];omega
      have a0:N-1<m.nt:=by omega
      generalize N-1=M at a5 a4 a3 a0;have aA:(M:Int)<m.nt:=by omega
      clear J o G Y;go_quiet (fail)
      go_wp2_with fail
      go_quiet (fail)
      go_wp2_with fail
      go_roundw
      case rel=>exact⟨I+1,I+1,by go_num,by go_num,by omega,by omega,K,⟨y.os,y.tape,y.output,y.size,y.block⟩⟩
      case measure=>simp[intOf];omega
     by_cases h5:x.km=(m.T N).km
     .by_cases h6:x.ji<(m.T N).ji
      .have j6:(x.ji:Int)<((m.T N).ji:Int):=by omega
       have K:=az (Z.take (by rw[hx];exact h1) (by rw[hx];exact h2) (ab (ab (by rw[hx];exact⟨h5,h6⟩))));clear Z;go_wp2_with fail
       obtain⟨W,J,f1,f3,f4,f5,lW,G,o⟩:=ke wr _ _ _ _ _ _ _ _;rw[J];have e6:=o _ _ d6;have e5:=o _ _ d5;have y:=az (an Y G)
       have a5:=o _ _ (a7 h3);have a4:=o _ _ (a8 h3)
       have aB:((N:Int) == 0)=false:=by simpa using j3
       have a3:IntKind.i64.wrap ((N:Int)-1)=((N-1:Nat):Int):=by simp[IntKind.wrap,IntKind.bits,IntKind.signed];omega
       have a0:N-1<m.nt:=by omega
       generalize N-1=M at a5 a4 a3 a0;have aA:(M:Int)<m.nt:=by omega
       clear J o G Y;go_quiet (fail)
       go_wp2_with fail
       go_quiet (fail)
       go_wp2_with fail
       go_roundw
       case rel=>exact⟨I+1,I+1,by go_num,by go_num,by omega,by omega,K,⟨y.os,y.tape,y.output,y.size,y.block⟩⟩
       case measure=>simp[intOf];omega
      have j6:¬((x.ji:Int)<((m.T N).ji:Int)):=by omega
      have K:=az (Z.kU h3 (by rw[hx];unfold xw;omega));clear Z;go_wp2_with fail
      obtain⟨W,J,f1,f3,f4,f5,lW,G,o⟩:=ke wr _ _ _ _ _ _ _ _;rw[J];have e6:=o _ _ d6;have e5:=o _ _ d5;have y:=az (an Y G)
      have a5:=o _ _ (a7 h3);have a4:=o _ _ (a8 h3)
      have aB:((N:Int) == 0)=false:=by simpa using j3
      have a3:IntKind.i64.wrap ((N:Int)-1)=((N-1:Nat):Int):=by simp[IntKind.wrap,IntKind.bits,IntKind.signed];omega
      have a0:N-1<m.nt:=by omega
      generalize N-1=M at a5 a4 a3 a0;have aA:(M:Int)<m.nt:=by omega
      clear J o G Y;go_quiet (fail)
      go_wp2_with fail
      go_quiet (fail)
      go_wp2_with fail
      go_roundw
      case rel=>exact⟨N,I+1,by go_num,by go_num,by omega,by omega,K,⟨y.os,y.tape,y.output,y.size,y.block⟩⟩
      case measure=>simp[intOf];omega
     have b5:(x.km == (m.T N).km)=false:=by simpa using h5
     have d4:=fi h4;have K:=az (Z.kU h3 (by rw[hx];unfold xw;omega));clear Z;go_wp2_with fail
     obtain⟨W,J,f1,f3,f4,f5,lW,G,o⟩:=ke wr _ _ _ _ _ _ _ _;rw[J];have e6:=o _ _ d6;have e5:=o _ _ d5;have y:=az (an Y G)
     have a5:=o _ _ (a7 h3);have a4:=o _ _ (a8 h3)
     have aB:((N:Int) == 0)=false:=by simpa using j3
     have a3:IntKind.i64.wrap ((N:Int)-1)=((N-1:Nat):Int):=by simp[IntKind.wrap,IntKind.bits,IntKind.signed];omega
     have a0:N-1<m.nt:=by omega
     generalize N-1=M at a5 a4 a3 a0;have aA:(M:Int)<m.nt:=by omega
     clear J o G Y;go_quiet (fail)
     go_wp2_with fail
     go_quiet (fail)
     go_wp2_with fail
     go_roundw
     case rel=>exact⟨N,I+1,by go_num,by go_num,by omega,by omega,K,⟨y.os,y.tape,y.output,y.size,y.block⟩⟩
     case measure=>simp[intOf];omega
    have j2:m.eY<x.km:=by omega
    have K:=az (Z.no (by rw[hx];exact λe=>h2 e.2));clear Z;go_wp2_with fail
    obtain⟨W,J,f1,f3,f4,f5,lW,G,o⟩:=ke wr _ _ _ _ _ _ _ _;rw[J];have e5:=o _ _ d5;have y:=az (an Y G)
    clear J o G Y;go_quiet (fail)
    go_wp2_with fail
    go_roundw
    case rel=>exact⟨N,I+1,by go_num,by go_num,by omega,by omega,K,⟨y.os,y.tape,y.output,y.size,y.block⟩⟩
    case measure=>simp[intOf];omega
   have j1:¬((x.how:Int)=2):=by omega
   have aJ:((x.how:Int) != 2)=true:=by simpa using j1
   have K:=az (Z.no (by rw[hx];exact λe=>h1 e.1));clear Z;go_wp2_with fail
   obtain⟨W,J,f1,f3,f4,f5,lW,G,o⟩:=ke wr _ _ _ _ _ _ _ _;rw[J];have y:Hid (w.grownBy W none):=an Y G
   clear J o G Y;go_quiet (fail)
   go_wp2_with fail
   go_roundw
   case rel=>exact⟨N,I+1,by go_num,by go_num,by omega,by omega,K,⟨y.os,y.tape,y.output,y.size,y.block⟩⟩
   case measure=>simp[intOf];omega
  obtain rfl:I=m.nt:=by omega
  have aC:Hid (Iw m N):=by
   rcases Z with⟨h0,h1⟩|⟨h0,h1,h2,h3⟩
   .exact ag ⟨h0,λu hu=>h1 u hu.1 hu.2⟩
   exact ab ⟨h0,h1,h2,λu hu=>h3 u hu.1 hu.2⟩
  clear a6 Z d5;go_wp2_with fail
  go_ret;exact⟨N,rfl,by omega,aC,Y⟩
